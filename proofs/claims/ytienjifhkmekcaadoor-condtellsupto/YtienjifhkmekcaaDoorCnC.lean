/- Some texts in one. -/
import Derived.Test.YtienjifhkmekcaaDoorCmB
import Derived.Test.YtienjifhkmekcaaDoorCmA
import Derived.Test.YtienjifhkmekcaaDoorCnB
namespace Go.Proofs.YtienjifhkmekcaaDoor
open Go.RowKit Go.Shelf

set_option maxRecDepth 100000 in
set_option maxHeartbeats 1000000 in
theorem RChar_any (s : ByteArray) (w : World) : Calls Tryd.prog 10 #[.string s] w fun e w' => e = .returned (optV (charL s.data.toList)) ∧ w' = w := by
  by_cases h3 : s.size = 3
  · have HC : Hid (charL s.data.toList = if (s[1].toNat : Int) = 92 ∨ (s[1].toNat : Int) = 39 then none else some (s[1].toNat : Int)) := by
      show _ = _
      unfold charL
      rw [size_data, ← byte_at s 1 (by omega)]
      simp only [u8i, Ne]
      by_cases h : (s[1].toNat : Int) = 92 ∨ (s[1].toNat : Int) = 39
      · rw [if_pos h, if_neg (by intro x; rcases h with h | h; exact x.2.1 h; exact x.2.2 h), if_neg (by intro x; omega)]
      · rw [if_neg h, if_pos ⟨h3, fun e => h (.inl e), fun e => h (.inr e)⟩]
    generalize charL s.data.toList = o at HC ⊢
    have hi : (s.size : Int) = 3 := by omega
    have h1 : 1 < s.size := by omega
    have h1i : (1 : Int) < (s.size : Int) := by omega
    by_cases h92 : (s[1].toNat : Int) = 92
    · have HE := hid (HC.out.trans (if_pos (.inl h92)))
      clear HC
      go_enter Tryd.func10, Tryd.ntmps10
      go_wp2
      go_ret2
      exact ⟨ret_opt (by rw [HE.out]; rfl) (by rw [HE.out]; rfl), rfl⟩
    · by_cases h39 : (s[1].toNat : Int) = 39
      · have HE := hid (HC.out.trans (if_pos (.inr h39)))
        clear HC
        go_enter Tryd.func10, Tryd.ntmps10
        go_wp2
        go_ret2
        exact ⟨ret_opt (by rw [HE.out]; rfl) (by rw [HE.out]; rfl), rfl⟩
      · have HE := hid (HC.out.trans (if_neg (by intro h; rcases h with h | h; exact h92 h; exact h39 h)))
        have n1 : ((s[1].toNat : Int) != 92) = true := by simpa using h92
        have n2 : ((s[1].toNat : Int) != 39) = true := by simpa using h39
        clear HC
        go_enter Tryd.func10, Tryd.ntmps10
        go_wp2_with fail
        go_ret2
        exact ⟨ret_opt (by rw [HE.out]; exact wrap64_byte _) (by rw [HE.out]; rfl), rfl⟩
  · have hi3 : ((s.size : Int) == 3) = false := by simp; omega
    by_cases h4 : s.size = 4
    · have HC : Hid (charL s.data.toList = if (s[1].toNat : Int) = 92 then escL s[2] else none) := by
        show _ = _
        unfold charL
        rw [size_data, ← byte_at s 1 (by omega), ← byte_at s 2 (by omega), if_neg (fun h => h3 h.1)]
        simp only [u8i]
        by_cases h : (s[1].toNat : Int) = 92
        · rw [if_pos ⟨h4, h⟩, if_pos h]
        · rw [if_neg (fun x => h x.2), if_neg h]
      generalize charL s.data.toList = o at HC ⊢
      have hi : (s.size : Int) = 4 := by omega
      have h1 : 1 < s.size := by omega
      have h2 : 2 < s.size := by omega
      have h1i : (1 : Int) < (s.size : Int) := by omega
      have h2i : (2 : Int) < (s.size : Int) := by omega
      by_cases h92 : (s[1].toNat : Int) = 92
      · have HE := hid (HC.out.trans (if_pos h92))
        have HE2 : Hid (o = if (s[2].toNat : Int) = 110 then (some 10 : Option Int) else if (s[2].toNat : Int) = 116 then some 9 else if (s[2].toNat : Int) = 48 then some 0 else if (s[2].toNat : Int) = 92 ∨ (s[2].toNat : Int) = 39 ∨ (s[2].toNat : Int) = 34 then some (s[2].toNat : Int) else none) := by
          show _ = _
          rw [HE.out]
          unfold escL
          simp only [u8i]
          rfl
        clear HC h3 HE
        go_enter Tryd.func10, Tryd.ntmps10
        go_wp2
        all_goals go_ret2
        all_goals exact ⟨ret_opt (by rw [HE2.out]; simp_all <;> exact wrap64_small _ (by decide) (by decide)) (by rw [HE2.out]; simp_all), rfl⟩
      · have HE := hid (HC.out.trans (if_neg h92))
        have n1 : ((s[1].toNat : Int) == 92) = false := by simpa using h92
        clear HC h3
        go_enter Tryd.func10, Tryd.ntmps10
        go_wp2
        go_ret2
        exact ⟨ret_opt (by rw [HE.out]; rfl) (by rw [HE.out]; rfl), rfl⟩
    · have HE : Hid (charL s.data.toList = none) := by
        show _ = _
        unfold charL
        rw [size_data, if_neg (fun h => h3 h.1), if_neg (fun h => h4 h.1)]
      have hi4 : ((s.size : Int) == 4) = false := by simp; omega
      have m3 : ¬ ((s.size : Int) = 3) := by omega
      have m4 : ¬ ((s.size : Int) = 4) := by omega
      generalize charL s.data.toList = o at HE ⊢
      clear h3 h4
      go_enter Tryd.func10, Tryd.ntmps10
      go_wp2
      go_ret2
      exact ⟨ret_opt (by rw [HE.out]; rfl) (by rw [HE.out]; rfl), rfl⟩

/-- The digit that a byte is, as the document has it; 99, if it is none. -/
def digR (c : UInt8) : Nat := if 48 ≤ c.toNat ∧ c.toNat ≤ 57 then c.toNat - 48 else if 97 ≤ c.toNat ∧ c.toNat ≤ 102 then c.toNat - 97 + 10 else if 65 ≤ c.toNat ∧ c.toNat ≤ 70 then c.toNat - 65 + 10 else 99
theorem dig_same' : ∀ n : Fin 256, digU (UInt8.ofNat n.val) = digR (UInt8.ofNat n.val) ∨ (16 ≤ digU (UInt8.ofNat n.val) ∧ 16 ≤ digR (UInt8.ofNat n.val)) := by decide +kernel
theorem dig_same (c : UInt8) : digU c = digR c ∨ (16 ≤ digU c ∧ 16 ≤ digR c) := by
  have := dig_same' ⟨c.toNat, c.toNat_lt⟩
  rwa [UInt8.ofNat_toNat] at this
def rparsU (b : Nat) (acc : Nat) : List UInt8 → Option Nat
  | [] => some acc
  | c :: r => if b ≤ digR c ∨ (9223372036854775807 - digR c) / b < acc then none else rparsU b (b * acc + digR c) r
theorem pars_same (b : Nat) (hb : b = 8 ∨ b = 10 ∨ b = 16) : ∀ (l : List UInt8) (acc : Nat), (match parsU b acc l with | .inl n => some n | .inr _ => none) = rparsU b acc l
  | [], _ => rfl
  | c :: r, acc => by
    unfold parsU rparsU
    by_cases h1 : b ≤ digU c
    · have h2 : b ≤ digR c := by rcases dig_same c with h | h <;> omega
      rw [if_pos h1, if_pos (.inl h2)]
    · have hd : digU c = digR c := by rcases dig_same c with h | h <;> omega
      rw [if_neg h1, hd]
      rw [hd] at h1
      generalize digR c = d at h1
      by_cases h3 : (9223372036854775807 - d) / b < acc
      · rw [if_pos (show b ≤ d ∨ (9223372036854775807 - d) / b < acc from .inr h3)]
        by_cases h4 : cutU b ≤ acc
        · rw [if_pos h4]
        · rw [if_neg h4, if_pos (by rcases hb with rfl | rfl | rfl <;> omega)]
      · rw [if_neg (show ¬ (b ≤ d ∨ (9223372036854775807 - d) / b < acc) from fun h => h.elim h1 h3)]
        rw [if_neg (by unfold cutU; rcases hb with rfl | rfl | rfl <;> omega), if_neg (by rcases hb with rfl | rfl | rfl <;> omega), Nat.mul_comm acc b]
        exact pars_same b hb r _
theorem opt_same (b : Nat) (hb : b = 8 ∨ b = 10 ∨ b = 16) (l : List UInt8) (hl : l ≠ []) : optE (parsE b l) = Option.map (fun n : Nat => (n : Int)) (rparsU b 0 l) := by
  have := pars_same b hb l 0
  unfold parsE
  rw [if_neg hl, ← this]
  cases parsU b 0 l <;> rfl
/-- The number that a text tells, as the document has it. -/
def rnumL (m : List UInt8) : Option Int :=
  if 2 < m.length ∧ byteAt m 0 = 48 ∧ (byteAt m 1 = 120 ∨ byteAt m 1 = 88) then Option.map (fun n : Nat => (n : Int)) (rparsU 16 0 (m.drop 2))
  else if 1 < m.length ∧ byteAt m 0 = 48 then Option.map (fun n : Nat => (n : Int)) (rparsU 8 0 (m.drop 1))
  else Option.map (fun n : Nat => (n : Int)) (rparsU 10 0 m)
theorem num_same (l : List UInt8) (hl : l ≠ []) (hc : cutL l ≠ []) : numL l = rnumL (cutL l) := by
  unfold numL rnumL
  rw [if_neg hl]
  generalize cutL l = m at hc
  rcases m with _ | ⟨c, m⟩
  · exact absurd rfl hc
  · by_cases h0 : c = 48
    · subst h0
      rcases m with _ | ⟨x, m⟩
      · decide +kernel
      · have e1 : byteAt (48 :: x :: m) 1 = x := rfl
        have e0 : byteAt (48 :: x :: m) 0 = 48 := rfl
        rw [e1, e0]
        have hp : ∀ y, Lib.hasPrefix (48 :: x :: m) [48, y] = (y == x) := fun y => by
          unfold Lib.hasPrefix
          simp [List.isPrefixOf]
        rw [hp, hp]
        by_cases hx : x = 120 ∨ x = 88
        · have hb : ((120 : UInt8) == x || (88 : UInt8) == x) = true := by rcases hx with rfl | rfl <;> decide
          rw [if_pos hb]
          rcases m with _ | ⟨y, m⟩
          · rcases hx with rfl | rfl <;> decide +kernel
          · rw [if_pos ⟨by simp, rfl, hx⟩]
            exact opt_same 16 (by omega) (y :: m) (by simp)
        · have hb : ¬ (((120 : UInt8) == x || (88 : UInt8) == x) = true) := by
            simp only [Bool.or_eq_true, beq_iff_eq]
            intro h
            exact hx (h.imp (·.symm) (·.symm))
          rw [if_neg hb, if_pos (show ((48 :: x :: m).headD 0 == 48) = true from rfl), if_neg (fun h => hx h.2.2), if_pos ⟨by simp, rfl⟩]
          have e8 : parsE 8 (48 :: x :: m) = parsE 8 (x :: m) := by
            unfold parsE
            rw [if_neg (by simp), if_neg (by simp)]
            rfl
          rw [e8]
          exact opt_same 8 (by omega) (x :: m) (by simp)
    · have hb : (c == 48) = false := by rw [beq_eq_false_iff_ne]; exact h0
      have hb' : ((48 : UInt8) == c) = false := by rw [beq_eq_false_iff_ne]; exact fun e => h0 e.symm
      have p1 : ∀ x, Lib.hasPrefix (c :: m) [48, x] = false := fun x => by
        unfold Lib.hasPrefix
        rw [List.isPrefixOf, hb', Bool.false_and]
      have e0 : byteAt (c :: m) 0 = c := rfl
      rw [p1, p1, List.headD_cons, hb, e0, if_neg (by simp), if_neg (by simp), if_neg (fun h => h0 h.2.1), if_neg (fun h => h0 h.2)]
      exact opt_same 10 (by omega) (c :: m) (by simp)
end Go.Proofs.YtienjifhkmekcaaDoor
namespace Go.Proofs.YtienjifhkmekcaaDoor
open Go.RowKit Go.Shelf

def szOf (v : Value) : Nat := match v with
  | .string t => t.size
  | _ => 0
def isTail (c : UInt8) : Bool := ([85, 117, 76, 108] : List UInt8).contains c
theorem cut_step (l : List UInt8) (c : UInt8) (hl : l ≠ []) (hc : isTail c = true) : cutL (l ++ [c]) = cutL l := by
  rcases l with _ | ⟨x, r⟩
  · exact absurd rfl hl
  · unfold cutL
    simp only [List.cons_append, List.take_succ_cons, List.take_zero, List.drop_succ_cons, List.drop_zero]
    congr 1
    unfold Lib.trimRightS
    unfold isTail at hc
    rw [List.reverse_append, List.reverse_singleton, List.singleton_append, List.dropWhile_cons, hc]
    rfl
theorem cut_stay (l : List UInt8) (c : UInt8) (hl : l ≠ []) (hc : isTail c = false) : cutL (l ++ [c]) = l ++ [c] := by
  rcases l with _ | ⟨x, r⟩
  · exact absurd rfl hl
  · unfold cutL
    simp only [List.cons_append, List.take_succ_cons, List.take_zero, List.drop_succ_cons, List.drop_zero]
    unfold Lib.trimRightS
    unfold isTail at hc
    rw [List.reverse_append, List.reverse_singleton, List.singleton_append, List.dropWhile_cons, hc]
    simp
theorem cut_one (l : List UInt8) (hl : l.length ≤ 1) : cutL l = l := by
  rcases l with _ | ⟨x, r⟩
  · rfl
  · have : r = [] := by simp at hl; exact hl
    subst this
    rfl
theorem tail_iff (c : UInt8) : isTail c = (((c.toNat : Int) == 117) || ((c.toNat : Int) == 85) || ((c.toNat : Int) == 108) || ((c.toNat : Int) == 76)) := by
  have : ∀ n : Fin 256, isTail (UInt8.ofNat n.val) = ((((UInt8.ofNat n.val).toNat : Int) == 117) || (((UInt8.ofNat n.val).toNat : Int) == 85) || (((UInt8.ofNat n.val).toNat : Int) == 108) || (((UInt8.ofNat n.val).toNat : Int) == 76)) := by decide +kernel
  have h := this ⟨c.toNat, c.toNat_lt⟩
  rwa [UInt8.ofNat_toNat] at h
theorem last_split (t : ByteArray) (N : Nat) (h : t.size = N + 1) : t.data.toList = (t.extract 0 N).data.toList ++ [t[N]'(by omega)] := by
  have hl : t.data.toList.length = t.size := size_data t
  rw [extract_data, List.drop_zero]
  have h1 : t.data.toList = t.data.toList.take N ++ t.data.toList.drop N := (List.take_append_drop _ _).symm
  have h2 : t.data.toList.drop N = [t[N]'(by omega)] := by
    rw [List.drop_eq_getElem_cons (by omega), List.drop_of_length_le (by omega)]
    rfl
  rw [h2] at h1
  exact h1
theorem drew_size (w : World) : w.drew.heap.size = w.heap.size := rfl
theorem conv_below (w : World) (T : TypeId) (U : ByteArray) : Below w.heap.size w (Lib.bytesWorld w.drew T U) := by
  have h := Lib.bytesWorld_below w.drew T U
  rw [drew_size] at h
  exact ((Below.refl _ w).drew).trans h
theorem conv_below0 (w : World) (T : TypeId) (U : ByteArray) : Below w.heap.size w (Lib.bytesWorld w T U) := Lib.bytesWorld_below w T U
theorem conv_cell (w : World) (T : TypeId) (U : ByteArray) (j : Nat) (hj : j < U.size) : (Lib.bytesWorld w.drew T U).cell? ⟨w.heap.size, j, none⟩ = some (.int .u8 (U.data.toList.getD j 0).toNat) := by
  have h := Lib.bytesWorld_cell w.drew T U j hj
  rw [drew_size] at h
  exact h
theorem conv_cell0 (w : World) (T : TypeId) (U : ByteArray) (j : Nat) (hj : j < U.size) : (Lib.bytesWorld w T U).cell? ⟨w.heap.size, j, none⟩ = some (.int .u8 (U.data.toList.getD j 0).toNat) := Lib.bytesWorld_cell w T U j hj
/-- Where nothing is cut any more. -/
theorem cut_end (t : ByteArray) (N : Nat) (h : t.size = N + 1) (hf : N = 0 ∨ isTail (t[N]'(by omega)) = false) : cutL t.data.toList = t.data.toList := by
  rcases Nat.eq_zero_or_pos N with h0 | h0
  · exact cut_one _ (by rw [size_data]; omega)
  · have hc : isTail (t[N]'(by omega)) = false := by rcases hf with h | h; · omega
                                                     · exact h
    rw [last_split t N h]
    exact cut_stay _ _ (fun e => by
      have := congrArg List.length e
      rw [size_data, ByteArray.size_extract, List.length_nil] at this
      omega) hc
theorem cut_more (t : ByteArray) (N : Nat) (h : t.size = N + 1) (h0 : 0 < N) (hc : isTail (t[N]'(by omega)) = true) : cutL t.data.toList = cutL (t.extract 0 N).data.toList := by
  rw [last_split t N h]
  exact cut_step _ _ (fun e => by
    have := congrArg List.length e
    rw [size_data, ByteArray.size_extract, List.length_nil] at this
    omega) hc

/-- One digit more: what holds of it in the program's own numbers. -/
theorem num_step (b : Nat) (hb : b = 8 ∨ b = 10 ∨ b = 16) (d : Nat) (hd : d ≤ 15) (acc : Nat) :
    ∃ q : Nat, q = (9223372036854775807 - d) / b ∧ wrap64 (q : Int) = (q : Int) ∧ (9223372036854775807 - (d : Int)).tdiv (b : Int) = (q : Int) ∧
      (¬ q < acc → b * acc + d ≤ 9223372036854775807 ∧ (b : Int) * (acc : Int) + (d : Int) ≤ 9223372036854775807 ∧ (b : Int) * (acc : Int) ≤ 9223372036854775807 ∧ (0 : Int) ≤ (b : Int) * (acc : Int) ∧ (b : Int) * (acc : Int) + (d : Int) = ((b * acc + d : Nat) : Int)) := by
  refine ⟨_, rfl, ?_, ?_, fun h => ?_⟩
  · apply wrap64_small
    · exact Int.natCast_nonneg _
    · rcases hb with rfl | rfl | rfl <;> omega
  · rw [Int.tdiv_eq_ediv_of_nonneg (by omega)]
    rcases hb with rfl | rfl | rfl <;> omega
  · have h1 : b * acc + d ≤ 9223372036854775807 := by rcases hb with rfl | rfl | rfl <;> omega
    refine ⟨h1, ?_, ?_, ?_, ?_⟩
    · rcases hb with rfl | rfl | rfl <;> omega
    · rcases hb with rfl | rfl | rfl <;> omega
    · rcases hb with rfl | rfl | rfl <;> omega
    · push_cast; rfl
end Go.Proofs.YtienjifhkmekcaaDoor
namespace Go.Proofs.YtienjifhkmekcaaDoor
open Go.RowKit Go.Shelf

set_option maxRecDepth 100000 in
set_option maxHeartbeats 2000000 in
theorem RNum_A1 (s : ByteArray) (hs : s.size ≠ 0) (hm : s.size ≤ 1048576) (C : List UInt8) (hcs : cutL s.data.toList = C) (hC : 2 < C.length ∧ byteAt C 0 = 48 ∧ byteAt C 1 = 120) (w : World) : Calls Tryd.prog 8 #[.string s] w fun e w' => e = .returned (optV (numL s.data.toList)) ∧ Below w.heap.size w w' := by
  have hne : s.data.toList ≠ [] := fun e => hs (by rw [← size_data, e]; rfl)
  have HS := hid (num_same s.data.toList hne)
  rw [hcs] at HS
  generalize numL s.data.toList = o at HS ⊢
  have HH := hid hC
  go_enter Tryd.func8, Tryd.ntmps8
  go_wp2_with fail
  go_loop [0] (fun x => ∃ t : ByteArray, x = .string t ∧ t.size ≠ 0 ∧ t.size ≤ 1048576 ∧ Hid (C = cutL t.data.toList)) (fun x => szOf x)
  case atStart => exact ⟨s, rfl, hs, hm, hcs.symm⟩
  case round =>
    obtain ⟨t, rfl, ht0, htm, HC⟩ := hrel
    obtain ⟨N, hN⟩ : ∃ N, t.size = N + 1 := ⟨t.size - 1, by omega⟩
    have hlt : N < t.size := by omega
    have hwn : IntKind.i64.wrap ((t.size : Int) - 1) = (N : Int) := by rw [IntKind.wrap_i64]; omega
    have hN0 : (0 : Int) ≤ (N : Int) := by omega
    have hNt : (N : Int) < (t.size : Int) := by omega
    have hNt2 : (N : Int) ≤ (t.size : Int) := by omega
    have htl := tail_iff (t[N])
    by_cases hmore : 0 < N ∧ isTail (t[N]) = true
    · have HC2 : Hid (C = cutL (t.extract 0 N).data.toList) := by
        show _ = _
        rw [HC.out]
        exact cut_more t N hN hmore.1 hmore.2
      rw [hmore.2] at htl
      have hn1 : (1 : Int) < (t.size : Int) := by omega
      have hsz : (t.extract 0 N).size = N := by rw [ByteArray.size_extract]; omega
      simp only [Bool.true_eq, Bool.or_eq_true, beq_iff_eq] at htl
      have hN1 := hmore.1
      clear HC hmore hN
      rcases htl with ((h | h) | h) | h
      all_goals go_wp2_with fail
      all_goals exact ⟨⟨_, rfl, by omega, by omega, HC2.out⟩, by simp only [szOf]; omega⟩
    · have HT : Hid (C = t.data.toList) := by
        show _ = _
        rw [HC.out]
        exact cut_end t N hN (by
          rcases Nat.eq_zero_or_pos N with h | h
          · exact .inl h
          · exact .inr (by cases hx : isTail (t[N]) with | false => rfl | true => exact absurd ⟨h, hx⟩ hmore))
      have h0s : 0 < t.size := by omega
      have hlen : C.length = t.size := by rw [HT.out, size_data]
      have hC0 : byteAt C 0 = t[0] := by rw [HT.out, ← byte_at t 0 h0s]
      have hC := HH.out
      rw [hC0, hlen] at hC
      obtain ⟨h2, hz', hx'⟩ := hC
      have h1t : 1 < t.size := by omega
      have hx0 : byteAt C 1 = t[1]'h1t := (congrArg (fun l => byteAt l 1) HT.out).trans (byte_at t 1 h1t).symm
      rw [hx0] at hx'
      have h1 : 1 < t.size := by omega
      have hcT : isTail (t[N]) = false := by cases hx : isTail (t[N]) with | false => rfl | true => exact absurd ⟨by omega, hx⟩ hmore
      rw [hcT] at htl
      have htl' := htl.symm
      simp only [Bool.or_eq_false_iff] at htl'
      obtain ⟨⟨⟨n1, n2⟩, n3⟩, n4⟩ := htl'
      have m1 : ((t[N].toNat : Int) != 117) = true := by simpa using n1
      have m2 : ((t[N].toNat : Int) != 85) = true := by simpa using n2
      have m3 : ((t[N].toNat : Int) != 108) = true := by simpa using n3
      have m4 : ((t[N].toNat : Int) != 76) = true := by simpa using n4
      have hn1 : (1 : Int) < (t.size : Int) := by omega
      have h0i : (0 : Int) < (t.size : Int) := by omega
      have h1l : (1 : Int) ≤ (t.size : Int) := by omega
      clear htl hmore n1 n2 n3 n4 hcT
      have hz : (t[0].toNat : Int) = 48 := by rw [hz']; rfl
      have hx : (t[1].toNat : Int) = 120 := by rw [hx']; rfl
      have h2i : (2 : Int) < (t.size : Int) := by omega
      have h2l : (2 : Int) ≤ (t.size : Int) := by omega
      have hU : (t.extract 2 (N + 1)).size = N - 1 := by rw [ByteArray.size_extract]; omega
      have HO : Hid (o = Option.map (fun n : Nat => (n : Int)) (rparsU 16 0 (t.extract 2 (N + 1)).data.toList)) := by
        show _ = _
        have he : (t.extract 2 (N + 1)).data.toList = t.data.toList.drop 2 := by rw [extract_data, ← hN, ← size_data, List.take_length]
        rw [HS.out (by rw [HT.out]; intro e; rw [← size_data, e] at h0s; simp at h0s), he, ← HT.out]
        unfold rnumL
        rw [if_pos ⟨by rw [hlen]; exact h2, by rw [hC0]; exact hz', by rw [hx0]; exact .inl hx'⟩]
      clear HH HS hC HC
      clear hz' hx' hx0 hC0 hlen
      go_wp2_with fail
      go_region
      have hB : ∀ j, j < (t.extract 2 (N + 1)).size → (Lib.bytesWorld w.drew 5 (t.extract 2 (N + 1))).cell? ⟨w.heap.size, j, none⟩ = some (.int .u8 ((t.extract 2 (N + 1)).data.toList.getD j 0).toNat) := fun j hj => conv_cell w 5 (t.extract 2 (N + 1)) j hj
      have hcv := Lib.run_convert_string_bytes (P := Tryd.prog) w.drew 9 65 5 (t.extract 2 (N + 1)) (u := .string) Tryd.underlying9 Tryd.underlying65 Tryd.underlying5
      have HBw : Hid (Below w.heap.size w (Lib.bytesWorld w.drew 5 (t.extract 2 (N + 1)))) := conv_below w _ _
      have hLn : (t.extract 2 (N + 1)).data.toList.length = (t.extract 2 (N + 1)).size := size_data _
      generalize hW1 : Lib.bytesWorld w.drew 5 (t.extract 2 (N + 1)) = W1 at hB hcv HBw
      clear hW1
      rw [drew_size] at hcv
      generalize (t.extract 2 (N + 1)).data.toList = bs at hB hLn HO
      generalize t.extract 2 (N + 1) = u at hB hcv hLn hU
      go_wp2_with fail
      go_loop [6, 70] (fun vn vi => ∃ k acc : Nat, vn = .int .i64 (acc : Int) ∧ vi = .int .i64 (k : Int) ∧ k ≤ u.size ∧ Hid (acc ≤ 9223372036854775807 ∧ rparsU 16 0 bs = rparsU 16 acc (bs.drop k))) (fun _ vi => u.size - (intOf vi).toNat)
      case atStart => exact ⟨0, 0, rfl, rfl, Nat.zero_le _, by omega, rfl⟩
      case round =>
        obtain ⟨k, acc, rfl, rfl, hk, hh⟩ := hrel
        obtain ⟨hacc, hdec⟩ := hh.out
        clear hh
        by_cases hkn : k < u.size
        · have hc := hB k hkn
          have hdrop : bs.drop k = bs[k]'(by omega) :: bs.drop (k + 1) := List.drop_eq_getElem_cons (by omega)
          have hget : bs.getD k 0 = bs[k]'(by omega) := by simp [List.getD, List.getElem?_eq_getElem (show k < bs.length by omega)]
          rw [hdrop] at hdec
          rw [hget] at hc
          obtain ⟨c, hcd⟩ : ∃ c, bs[k]'(by omega) = c := ⟨_, rfl⟩
          rw [hcd] at hc hdec
          clear hcd hB
          have HD := hid hdec
          have hki : (k : Int) < (u.size : Int) := by omega
          have hk0 : (0 : Int) ≤ (k : Int) := by omega
          have ha0 : (0 : Int) ≤ (acc : Int) := by omega
          have hai : (acc : Int) ≤ 9223372036854775807 := by omega
          clear hdec hdrop hget
          by_cases h48 : 48 ≤ c.toNat ∧ c.toNat ≤ 57
          · obtain ⟨x1, x2⟩ := h48
            have y1 : (48 : Int) ≤ (c.toNat : Int) := by omega
            have y2 : (c.toNat : Int) ≤ 57 := by omega
            have HG : Hid (digR c = c.toNat - 48) := by show _ = _; unfold digR; repeat (first | rw [if_pos (by omega)] | rw [if_neg (by omega)])
            have hdd : ((c.toNat - 48 : Nat) : Int) = (c.toNat : Int) - 48 := by omega
            by_cases hb1 : 16 ≤ c.toNat - 48
            · have HN : Hid (o = none) := by
                show _ = _
                rw [HO.out, HD.out]
                unfold rparsU
                rw [HG.out, if_pos (.inl hb1)]
                all_goals rfl
              have hb1i : (16 : Int) ≤ (c.toNat : Int) - 48 := by omega
              clear HG HD hdd
              go_wp2_with fail
              all_goals go_ret2
              all_goals exact ⟨ret_opt (by rw [HN.out]; rfl) (by rw [HN.out]; rfl), HBw.out⟩
            have hb1i : ¬ ((16 : Int) ≤ (c.toNat : Int) - 48) := by omega
            obtain ⟨q, hq, hwq, hqi, hgo⟩ := num_step 16 (by decide) (c.toNat - 48) (by omega) acc
            rw [hdd, show ((16 : Nat) : Int) = 16 from rfl] at hqi hgo
            by_cases hb2 : q < acc
            · have HN : Hid (o = none) := by
                show _ = _
                rw [HO.out, HD.out]
                unfold rparsU
                rw [HG.out, if_pos (.inr (by rw [← hq]; exact hb2))]
                all_goals rfl
              have hb2i : (q : Int) < (acc : Int) := Int.ofNat_lt.2 hb2
              clear HG HD hq hgo hdd
              go_wp2_with fail
              all_goals go_ret2
              all_goals exact ⟨ret_opt (by rw [HN.out]; rfl) (by rw [HN.out]; rfl), HBw.out⟩
            · obtain ⟨hN, hle, hle0, hge, hnew⟩ := hgo hb2
              have HN : Hid (16 * acc + (c.toNat - 48) ≤ 9223372036854775807 ∧ rparsU 16 0 bs = rparsU 16 (16 * acc + (c.toNat - 48)) (bs.drop (k + 1))) := by
                refine ⟨hN, ?_⟩
                rw [HD.out]
                conv => lhs; unfold rparsU
                rw [HG.out, if_neg (fun h => h.elim hb1 (fun h => hb2 (by rw [hq]; exact h)))]
              have hb2i : ¬ ((q : Int) < (acc : Int)) := fun h => hb2 (Int.ofNat_lt.1 h)
              have HE := hid hnew
              clear HG HD hq hgo hdd hN hnew
              go_wp2_with fail
              exact ⟨⟨k + 1, 16 * acc + (c.toNat - 48), congrArg (Value.int .i64) HE.out, by go_num, by omega, HN.out⟩, by simp [intOf]; omega⟩
          by_cases h97 : 97 ≤ c.toNat ∧ c.toNat ≤ 102
          · obtain ⟨x1, x2⟩ := h97
            have y1 : (97 : Int) ≤ (c.toNat : Int) := by omega
            have y2 : (c.toNat : Int) ≤ 102 := by omega
            have HG : Hid (digR c = c.toNat - 97 + 10) := by show _ = _; unfold digR; repeat (first | rw [if_pos (by omega)] | rw [if_neg (by omega)])
            have hdd : ((c.toNat - 97 + 10 : Nat) : Int) = (c.toNat : Int) - 97 + 10 := by omega
            by_cases hb1 : 16 ≤ c.toNat - 97 + 10
            · have HN : Hid (o = none) := by
                show _ = _
                rw [HO.out, HD.out]
                unfold rparsU
                rw [HG.out, if_pos (.inl hb1)]
                all_goals rfl
              have hb1i : (16 : Int) ≤ (c.toNat : Int) - 97 + 10 := by omega
              clear HG HD hdd
              go_wp2_with fail
              all_goals go_ret2
              all_goals exact ⟨ret_opt (by rw [HN.out]; rfl) (by rw [HN.out]; rfl), HBw.out⟩
            have hb1i : ¬ ((16 : Int) ≤ (c.toNat : Int) - 97 + 10) := by omega
            obtain ⟨q, hq, hwq, hqi, hgo⟩ := num_step 16 (by decide) (c.toNat - 97 + 10) (by omega) acc
            rw [hdd, show ((16 : Nat) : Int) = 16 from rfl] at hqi hgo
            by_cases hb2 : q < acc
            · have HN : Hid (o = none) := by
                show _ = _
                rw [HO.out, HD.out]
                unfold rparsU
                rw [HG.out, if_pos (.inr (by rw [← hq]; exact hb2))]
                all_goals rfl
              have hb2i : (q : Int) < (acc : Int) := Int.ofNat_lt.2 hb2
              clear HG HD hq hgo hdd
              go_wp2_with fail
              all_goals go_ret2
              all_goals exact ⟨ret_opt (by rw [HN.out]; rfl) (by rw [HN.out]; rfl), HBw.out⟩
            · obtain ⟨hN, hle, hle0, hge, hnew⟩ := hgo hb2
              have HN : Hid (16 * acc + (c.toNat - 97 + 10) ≤ 9223372036854775807 ∧ rparsU 16 0 bs = rparsU 16 (16 * acc + (c.toNat - 97 + 10)) (bs.drop (k + 1))) := by
                refine ⟨hN, ?_⟩
                rw [HD.out]
                conv => lhs; unfold rparsU
                rw [HG.out, if_neg (fun h => h.elim hb1 (fun h => hb2 (by rw [hq]; exact h)))]
              have hb2i : ¬ ((q : Int) < (acc : Int)) := fun h => hb2 (Int.ofNat_lt.1 h)
              have HE := hid hnew
              clear HG HD hq hgo hdd hN hnew
              go_wp2_with fail
              exact ⟨⟨k + 1, 16 * acc + (c.toNat - 97 + 10), congrArg (Value.int .i64) HE.out, by go_num, by omega, HN.out⟩, by simp [intOf]; omega⟩
          by_cases h65 : 65 ≤ c.toNat ∧ c.toNat ≤ 70
          · obtain ⟨x1, x2⟩ := h65
            have y1 : (65 : Int) ≤ (c.toNat : Int) := by omega
            have y2 : (c.toNat : Int) ≤ 70 := by omega
            have HG : Hid (digR c = c.toNat - 65 + 10) := by show _ = _; unfold digR; repeat (first | rw [if_pos (by omega)] | rw [if_neg (by omega)])
            have hdd : ((c.toNat - 65 + 10 : Nat) : Int) = (c.toNat : Int) - 65 + 10 := by omega
            by_cases hb1 : 16 ≤ c.toNat - 65 + 10
            · have HN : Hid (o = none) := by
                show _ = _
                rw [HO.out, HD.out]
                unfold rparsU
                rw [HG.out, if_pos (.inl hb1)]
                all_goals rfl
              have hb1i : (16 : Int) ≤ (c.toNat : Int) - 65 + 10 := by omega
              clear HG HD hdd
              go_wp2_with fail
              all_goals go_ret2
              all_goals exact ⟨ret_opt (by rw [HN.out]; rfl) (by rw [HN.out]; rfl), HBw.out⟩
            have hb1i : ¬ ((16 : Int) ≤ (c.toNat : Int) - 65 + 10) := by omega
            obtain ⟨q, hq, hwq, hqi, hgo⟩ := num_step 16 (by decide) (c.toNat - 65 + 10) (by omega) acc
            rw [hdd, show ((16 : Nat) : Int) = 16 from rfl] at hqi hgo
            by_cases hb2 : q < acc
            · have HN : Hid (o = none) := by
                show _ = _
                rw [HO.out, HD.out]
                unfold rparsU
                rw [HG.out, if_pos (.inr (by rw [← hq]; exact hb2))]
                all_goals rfl
              have hb2i : (q : Int) < (acc : Int) := Int.ofNat_lt.2 hb2
              clear HG HD hq hgo hdd
              go_wp2_with fail
              all_goals go_ret2
              all_goals exact ⟨ret_opt (by rw [HN.out]; rfl) (by rw [HN.out]; rfl), HBw.out⟩
            · obtain ⟨hN, hle, hle0, hge, hnew⟩ := hgo hb2
              have HN : Hid (16 * acc + (c.toNat - 65 + 10) ≤ 9223372036854775807 ∧ rparsU 16 0 bs = rparsU 16 (16 * acc + (c.toNat - 65 + 10)) (bs.drop (k + 1))) := by
                refine ⟨hN, ?_⟩
                rw [HD.out]
                conv => lhs; unfold rparsU
                rw [HG.out, if_neg (fun h => h.elim hb1 (fun h => hb2 (by rw [hq]; exact h)))]
              have hb2i : ¬ ((q : Int) < (acc : Int)) := fun h => hb2 (Int.ofNat_lt.1 h)
              have HE := hid hnew
              clear HG HD hq hgo hdd hN hnew
              go_wp2_with fail
              exact ⟨⟨k + 1, 16 * acc + (c.toNat - 65 + 10), congrArg (Value.int .i64) HE.out, by go_num, by omega, HN.out⟩, by simp [intOf]; omega⟩
          have HN : Hid (o = none) := by
            show _ = _
            rw [HO.out, HD.out]
            unfold rparsU
            have hg : digR c = 99 := by unfold digR; rw [if_neg h48, if_neg h97, if_neg h65]
            rw [hg, if_pos (.inl (by omega))]
            all_goals rfl
          have g1 : ¬ ((48 : Int) ≤ (c.toNat : Int) ∧ (c.toNat : Int) ≤ 57) := by omega
          have g2 : ¬ ((97 : Int) ≤ (c.toNat : Int) ∧ (c.toNat : Int) ≤ 102) := by omega
          have g3 : ¬ ((65 : Int) ≤ (c.toNat : Int) ∧ (c.toNat : Int) ≤ 70) := by omega
          clear HD
          go_wp2_with fail
          all_goals first | (exfalso; omega) | (go_ret2; exact ⟨ret_opt (by rw [HN.out]; rfl) (by rw [HN.out]; rfl), HBw.out⟩)
        · obtain rfl : k = u.size := by omega
          have HN : Hid (o = some (acc : Int)) := by
            show _ = _
            rw [HO.out, hdec, List.drop_of_length_le (by omega)]
            all_goals rfl
          have hup : (0 : Int) < (u.size : Int) := by omega
          clear hdec
          go_wp2_with fail
          go_ret2
          exact ⟨ret_opt (by rw [HN.out]; rfl) (by rw [HN.out]; first | rfl | (simp; done) | (simp; omega)), HBw.out⟩

set_option maxRecDepth 100000 in
set_option maxHeartbeats 2000000 in
theorem RNum_A2 (s : ByteArray) (hs : s.size ≠ 0) (hm : s.size ≤ 1048576) (C : List UInt8) (hcs : cutL s.data.toList = C) (hC : 2 < C.length ∧ byteAt C 0 = 48 ∧ byteAt C 1 = 88) (w : World) : Calls Tryd.prog 8 #[.string s] w fun e w' => e = .returned (optV (numL s.data.toList)) ∧ Below w.heap.size w w' := by
  have hne : s.data.toList ≠ [] := fun e => hs (by rw [← size_data, e]; rfl)
  have HS := hid (num_same s.data.toList hne)
  rw [hcs] at HS
  generalize numL s.data.toList = o at HS ⊢
  have HH := hid hC
  go_enter Tryd.func8, Tryd.ntmps8
  go_wp2_with fail
  go_loop [0] (fun x => ∃ t : ByteArray, x = .string t ∧ t.size ≠ 0 ∧ t.size ≤ 1048576 ∧ Hid (C = cutL t.data.toList)) (fun x => szOf x)
  case atStart => exact ⟨s, rfl, hs, hm, hcs.symm⟩
  case round =>
    obtain ⟨t, rfl, ht0, htm, HC⟩ := hrel
    obtain ⟨N, hN⟩ : ∃ N, t.size = N + 1 := ⟨t.size - 1, by omega⟩
    have hlt : N < t.size := by omega
    have hwn : IntKind.i64.wrap ((t.size : Int) - 1) = (N : Int) := by rw [IntKind.wrap_i64]; omega
    have hN0 : (0 : Int) ≤ (N : Int) := by omega
    have hNt : (N : Int) < (t.size : Int) := by omega
    have hNt2 : (N : Int) ≤ (t.size : Int) := by omega
    have htl := tail_iff (t[N])
    by_cases hmore : 0 < N ∧ isTail (t[N]) = true
    · have HC2 : Hid (C = cutL (t.extract 0 N).data.toList) := by
        show _ = _
        rw [HC.out]
        exact cut_more t N hN hmore.1 hmore.2
      rw [hmore.2] at htl
      have hn1 : (1 : Int) < (t.size : Int) := by omega
      have hsz : (t.extract 0 N).size = N := by rw [ByteArray.size_extract]; omega
      simp only [Bool.true_eq, Bool.or_eq_true, beq_iff_eq] at htl
      have hN1 := hmore.1
      clear HC hmore hN
      rcases htl with ((h | h) | h) | h
      all_goals go_wp2_with fail
      all_goals exact ⟨⟨_, rfl, by omega, by omega, HC2.out⟩, by simp only [szOf]; omega⟩
    · have HT : Hid (C = t.data.toList) := by
        show _ = _
        rw [HC.out]
        exact cut_end t N hN (by
          rcases Nat.eq_zero_or_pos N with h | h
          · exact .inl h
          · exact .inr (by cases hx : isTail (t[N]) with | false => rfl | true => exact absurd ⟨h, hx⟩ hmore))
      have h0s : 0 < t.size := by omega
      have hlen : C.length = t.size := by rw [HT.out, size_data]
      have hC0 : byteAt C 0 = t[0] := by rw [HT.out, ← byte_at t 0 h0s]
      have hC := HH.out
      rw [hC0, hlen] at hC
      obtain ⟨h2, hz', hx'⟩ := hC
      have h1t : 1 < t.size := by omega
      have hx0 : byteAt C 1 = t[1]'h1t := (congrArg (fun l => byteAt l 1) HT.out).trans (byte_at t 1 h1t).symm
      rw [hx0] at hx'
      have h1 : 1 < t.size := by omega
      have hcT : isTail (t[N]) = false := by cases hx : isTail (t[N]) with | false => rfl | true => exact absurd ⟨by omega, hx⟩ hmore
      rw [hcT] at htl
      have htl' := htl.symm
      simp only [Bool.or_eq_false_iff] at htl'
      obtain ⟨⟨⟨n1, n2⟩, n3⟩, n4⟩ := htl'
      have m1 : ((t[N].toNat : Int) != 117) = true := by simpa using n1
      have m2 : ((t[N].toNat : Int) != 85) = true := by simpa using n2
      have m3 : ((t[N].toNat : Int) != 108) = true := by simpa using n3
      have m4 : ((t[N].toNat : Int) != 76) = true := by simpa using n4
      have hn1 : (1 : Int) < (t.size : Int) := by omega
      have h0i : (0 : Int) < (t.size : Int) := by omega
      have h1l : (1 : Int) ≤ (t.size : Int) := by omega
      clear htl hmore n1 n2 n3 n4 hcT
      have hz : (t[0].toNat : Int) = 48 := by rw [hz']; rfl
      have hx : (t[1].toNat : Int) = 88 := by rw [hx']; rfl
      have h2i : (2 : Int) < (t.size : Int) := by omega
      have h2l : (2 : Int) ≤ (t.size : Int) := by omega
      have hU : (t.extract 2 (N + 1)).size = N - 1 := by rw [ByteArray.size_extract]; omega
      have HO : Hid (o = Option.map (fun n : Nat => (n : Int)) (rparsU 16 0 (t.extract 2 (N + 1)).data.toList)) := by
        show _ = _
        have he : (t.extract 2 (N + 1)).data.toList = t.data.toList.drop 2 := by rw [extract_data, ← hN, ← size_data, List.take_length]
        rw [HS.out (by rw [HT.out]; intro e; rw [← size_data, e] at h0s; simp at h0s), he, ← HT.out]
        unfold rnumL
        rw [if_pos ⟨by rw [hlen]; exact h2, by rw [hC0]; exact hz', by rw [hx0]; exact .inr hx'⟩]
      clear HH HS hC HC
      clear hz' hx' hx0 hC0 hlen
      go_wp2_with fail
      go_region
      have hB : ∀ j, j < (t.extract 2 (N + 1)).size → (Lib.bytesWorld w.drew 5 (t.extract 2 (N + 1))).cell? ⟨w.heap.size, j, none⟩ = some (.int .u8 ((t.extract 2 (N + 1)).data.toList.getD j 0).toNat) := fun j hj => conv_cell w 5 (t.extract 2 (N + 1)) j hj
      have hcv := Lib.run_convert_string_bytes (P := Tryd.prog) w.drew 9 65 5 (t.extract 2 (N + 1)) (u := .string) Tryd.underlying9 Tryd.underlying65 Tryd.underlying5
      have HBw : Hid (Below w.heap.size w (Lib.bytesWorld w.drew 5 (t.extract 2 (N + 1)))) := conv_below w _ _
      have hLn : (t.extract 2 (N + 1)).data.toList.length = (t.extract 2 (N + 1)).size := size_data _
      generalize hW1 : Lib.bytesWorld w.drew 5 (t.extract 2 (N + 1)) = W1 at hB hcv HBw
      clear hW1
      rw [drew_size] at hcv
      generalize (t.extract 2 (N + 1)).data.toList = bs at hB hLn HO
      generalize t.extract 2 (N + 1) = u at hB hcv hLn hU
      go_wp2_with fail
      go_loop [6, 70] (fun vn vi => ∃ k acc : Nat, vn = .int .i64 (acc : Int) ∧ vi = .int .i64 (k : Int) ∧ k ≤ u.size ∧ Hid (acc ≤ 9223372036854775807 ∧ rparsU 16 0 bs = rparsU 16 acc (bs.drop k))) (fun _ vi => u.size - (intOf vi).toNat)
      case atStart => exact ⟨0, 0, rfl, rfl, Nat.zero_le _, by omega, rfl⟩
      case round =>
        obtain ⟨k, acc, rfl, rfl, hk, hh⟩ := hrel
        obtain ⟨hacc, hdec⟩ := hh.out
        clear hh
        by_cases hkn : k < u.size
        · have hc := hB k hkn
          have hdrop : bs.drop k = bs[k]'(by omega) :: bs.drop (k + 1) := List.drop_eq_getElem_cons (by omega)
          have hget : bs.getD k 0 = bs[k]'(by omega) := by simp [List.getD, List.getElem?_eq_getElem (show k < bs.length by omega)]
          rw [hdrop] at hdec
          rw [hget] at hc
          obtain ⟨c, hcd⟩ : ∃ c, bs[k]'(by omega) = c := ⟨_, rfl⟩
          rw [hcd] at hc hdec
          clear hcd hB
          have HD := hid hdec
          have hki : (k : Int) < (u.size : Int) := by omega
          have hk0 : (0 : Int) ≤ (k : Int) := by omega
          have ha0 : (0 : Int) ≤ (acc : Int) := by omega
          have hai : (acc : Int) ≤ 9223372036854775807 := by omega
          clear hdec hdrop hget
          by_cases h48 : 48 ≤ c.toNat ∧ c.toNat ≤ 57
          · obtain ⟨x1, x2⟩ := h48
            have y1 : (48 : Int) ≤ (c.toNat : Int) := by omega
            have y2 : (c.toNat : Int) ≤ 57 := by omega
            have HG : Hid (digR c = c.toNat - 48) := by show _ = _; unfold digR; repeat (first | rw [if_pos (by omega)] | rw [if_neg (by omega)])
            have hdd : ((c.toNat - 48 : Nat) : Int) = (c.toNat : Int) - 48 := by omega
            by_cases hb1 : 16 ≤ c.toNat - 48
            · have HN : Hid (o = none) := by
                show _ = _
                rw [HO.out, HD.out]
                unfold rparsU
                rw [HG.out, if_pos (.inl hb1)]
                all_goals rfl
              have hb1i : (16 : Int) ≤ (c.toNat : Int) - 48 := by omega
              clear HG HD hdd
              go_wp2_with fail
              all_goals go_ret2
              all_goals exact ⟨ret_opt (by rw [HN.out]; rfl) (by rw [HN.out]; rfl), HBw.out⟩
            have hb1i : ¬ ((16 : Int) ≤ (c.toNat : Int) - 48) := by omega
            obtain ⟨q, hq, hwq, hqi, hgo⟩ := num_step 16 (by decide) (c.toNat - 48) (by omega) acc
            rw [hdd, show ((16 : Nat) : Int) = 16 from rfl] at hqi hgo
            by_cases hb2 : q < acc
            · have HN : Hid (o = none) := by
                show _ = _
                rw [HO.out, HD.out]
                unfold rparsU
                rw [HG.out, if_pos (.inr (by rw [← hq]; exact hb2))]
                all_goals rfl
              have hb2i : (q : Int) < (acc : Int) := Int.ofNat_lt.2 hb2
              clear HG HD hq hgo hdd
              go_wp2_with fail
              all_goals go_ret2
              all_goals exact ⟨ret_opt (by rw [HN.out]; rfl) (by rw [HN.out]; rfl), HBw.out⟩
            · obtain ⟨hN, hle, hle0, hge, hnew⟩ := hgo hb2
              have HN : Hid (16 * acc + (c.toNat - 48) ≤ 9223372036854775807 ∧ rparsU 16 0 bs = rparsU 16 (16 * acc + (c.toNat - 48)) (bs.drop (k + 1))) := by
                refine ⟨hN, ?_⟩
                rw [HD.out]
                conv => lhs; unfold rparsU
                rw [HG.out, if_neg (fun h => h.elim hb1 (fun h => hb2 (by rw [hq]; exact h)))]
              have hb2i : ¬ ((q : Int) < (acc : Int)) := fun h => hb2 (Int.ofNat_lt.1 h)
              have HE := hid hnew
              clear HG HD hq hgo hdd hN hnew
              go_wp2_with fail
              exact ⟨⟨k + 1, 16 * acc + (c.toNat - 48), congrArg (Value.int .i64) HE.out, by go_num, by omega, HN.out⟩, by simp [intOf]; omega⟩
          by_cases h97 : 97 ≤ c.toNat ∧ c.toNat ≤ 102
          · obtain ⟨x1, x2⟩ := h97
            have y1 : (97 : Int) ≤ (c.toNat : Int) := by omega
            have y2 : (c.toNat : Int) ≤ 102 := by omega
            have HG : Hid (digR c = c.toNat - 97 + 10) := by show _ = _; unfold digR; repeat (first | rw [if_pos (by omega)] | rw [if_neg (by omega)])
            have hdd : ((c.toNat - 97 + 10 : Nat) : Int) = (c.toNat : Int) - 97 + 10 := by omega
            by_cases hb1 : 16 ≤ c.toNat - 97 + 10
            · have HN : Hid (o = none) := by
                show _ = _
                rw [HO.out, HD.out]
                unfold rparsU
                rw [HG.out, if_pos (.inl hb1)]
                all_goals rfl
              have hb1i : (16 : Int) ≤ (c.toNat : Int) - 97 + 10 := by omega
              clear HG HD hdd
              go_wp2_with fail
              all_goals go_ret2
              all_goals exact ⟨ret_opt (by rw [HN.out]; rfl) (by rw [HN.out]; rfl), HBw.out⟩
            have hb1i : ¬ ((16 : Int) ≤ (c.toNat : Int) - 97 + 10) := by omega
            obtain ⟨q, hq, hwq, hqi, hgo⟩ := num_step 16 (by decide) (c.toNat - 97 + 10) (by omega) acc
            rw [hdd, show ((16 : Nat) : Int) = 16 from rfl] at hqi hgo
            by_cases hb2 : q < acc
            · have HN : Hid (o = none) := by
                show _ = _
                rw [HO.out, HD.out]
                unfold rparsU
                rw [HG.out, if_pos (.inr (by rw [← hq]; exact hb2))]
                all_goals rfl
              have hb2i : (q : Int) < (acc : Int) := Int.ofNat_lt.2 hb2
              clear HG HD hq hgo hdd
              go_wp2_with fail
              all_goals go_ret2
              all_goals exact ⟨ret_opt (by rw [HN.out]; rfl) (by rw [HN.out]; rfl), HBw.out⟩
            · obtain ⟨hN, hle, hle0, hge, hnew⟩ := hgo hb2
              have HN : Hid (16 * acc + (c.toNat - 97 + 10) ≤ 9223372036854775807 ∧ rparsU 16 0 bs = rparsU 16 (16 * acc + (c.toNat - 97 + 10)) (bs.drop (k + 1))) := by
                refine ⟨hN, ?_⟩
                rw [HD.out]
                conv => lhs; unfold rparsU
                rw [HG.out, if_neg (fun h => h.elim hb1 (fun h => hb2 (by rw [hq]; exact h)))]
              have hb2i : ¬ ((q : Int) < (acc : Int)) := fun h => hb2 (Int.ofNat_lt.1 h)
              have HE := hid hnew
              clear HG HD hq hgo hdd hN hnew
              go_wp2_with fail
              exact ⟨⟨k + 1, 16 * acc + (c.toNat - 97 + 10), congrArg (Value.int .i64) HE.out, by go_num, by omega, HN.out⟩, by simp [intOf]; omega⟩
          by_cases h65 : 65 ≤ c.toNat ∧ c.toNat ≤ 70
          · obtain ⟨x1, x2⟩ := h65
            have y1 : (65 : Int) ≤ (c.toNat : Int) := by omega
            have y2 : (c.toNat : Int) ≤ 70 := by omega
            have HG : Hid (digR c = c.toNat - 65 + 10) := by show _ = _; unfold digR; repeat (first | rw [if_pos (by omega)] | rw [if_neg (by omega)])
            have hdd : ((c.toNat - 65 + 10 : Nat) : Int) = (c.toNat : Int) - 65 + 10 := by omega
            by_cases hb1 : 16 ≤ c.toNat - 65 + 10
            · have HN : Hid (o = none) := by
                show _ = _
                rw [HO.out, HD.out]
                unfold rparsU
                rw [HG.out, if_pos (.inl hb1)]
                all_goals rfl
              have hb1i : (16 : Int) ≤ (c.toNat : Int) - 65 + 10 := by omega
              clear HG HD hdd
              go_wp2_with fail
              all_goals go_ret2
              all_goals exact ⟨ret_opt (by rw [HN.out]; rfl) (by rw [HN.out]; rfl), HBw.out⟩
            have hb1i : ¬ ((16 : Int) ≤ (c.toNat : Int) - 65 + 10) := by omega
            obtain ⟨q, hq, hwq, hqi, hgo⟩ := num_step 16 (by decide) (c.toNat - 65 + 10) (by omega) acc
            rw [hdd, show ((16 : Nat) : Int) = 16 from rfl] at hqi hgo
            by_cases hb2 : q < acc
            · have HN : Hid (o = none) := by
                show _ = _
                rw [HO.out, HD.out]
                unfold rparsU
                rw [HG.out, if_pos (.inr (by rw [← hq]; exact hb2))]
                all_goals rfl
              have hb2i : (q : Int) < (acc : Int) := Int.ofNat_lt.2 hb2
              clear HG HD hq hgo hdd
              go_wp2_with fail
              all_goals go_ret2
              all_goals exact ⟨ret_opt (by rw [HN.out]; rfl) (by rw [HN.out]; rfl), HBw.out⟩
            · obtain ⟨hN, hle, hle0, hge, hnew⟩ := hgo hb2
              have HN : Hid (16 * acc + (c.toNat - 65 + 10) ≤ 9223372036854775807 ∧ rparsU 16 0 bs = rparsU 16 (16 * acc + (c.toNat - 65 + 10)) (bs.drop (k + 1))) := by
                refine ⟨hN, ?_⟩
                rw [HD.out]
                conv => lhs; unfold rparsU
                rw [HG.out, if_neg (fun h => h.elim hb1 (fun h => hb2 (by rw [hq]; exact h)))]
              have hb2i : ¬ ((q : Int) < (acc : Int)) := fun h => hb2 (Int.ofNat_lt.1 h)
              have HE := hid hnew
              clear HG HD hq hgo hdd hN hnew
              go_wp2_with fail
              exact ⟨⟨k + 1, 16 * acc + (c.toNat - 65 + 10), congrArg (Value.int .i64) HE.out, by go_num, by omega, HN.out⟩, by simp [intOf]; omega⟩
          have HN : Hid (o = none) := by
            show _ = _
            rw [HO.out, HD.out]
            unfold rparsU
            have hg : digR c = 99 := by unfold digR; rw [if_neg h48, if_neg h97, if_neg h65]
            rw [hg, if_pos (.inl (by omega))]
            all_goals rfl
          have g1 : ¬ ((48 : Int) ≤ (c.toNat : Int) ∧ (c.toNat : Int) ≤ 57) := by omega
          have g2 : ¬ ((97 : Int) ≤ (c.toNat : Int) ∧ (c.toNat : Int) ≤ 102) := by omega
          have g3 : ¬ ((65 : Int) ≤ (c.toNat : Int) ∧ (c.toNat : Int) ≤ 70) := by omega
          clear HD
          go_wp2_with fail
          all_goals first | (exfalso; omega) | (go_ret2; exact ⟨ret_opt (by rw [HN.out]; rfl) (by rw [HN.out]; rfl), HBw.out⟩)
        · obtain rfl : k = u.size := by omega
          have HN : Hid (o = some (acc : Int)) := by
            show _ = _
            rw [HO.out, hdec, List.drop_of_length_le (by omega)]
            all_goals rfl
          have hup : (0 : Int) < (u.size : Int) := by omega
          clear hdec
          go_wp2_with fail
          go_ret2
          exact ⟨ret_opt (by rw [HN.out]; rfl) (by rw [HN.out]; first | rfl | (simp; done) | (simp; omega)), HBw.out⟩

end Go.Proofs.YtienjifhkmekcaaDoor
namespace Go.Proofs.YtienjifhkmekcaaDoor
open Go.RowKit Go.Shelf

set_option maxRecDepth 100000 in
set_option maxHeartbeats 2000000 in
theorem RNum_B1 (s : ByteArray) (hs : s.size ≠ 0) (hm : s.size ≤ 1048576) (C : List UInt8) (hcs : cutL s.data.toList = C) (hC : 2 < C.length ∧ byteAt C 0 = 48 ∧ ¬ (byteAt C 1 = 120 ∨ byteAt C 1 = 88)) (w : World) : Calls Tryd.prog 8 #[.string s] w fun e w' => e = .returned (optV (numL s.data.toList)) ∧ Below w.heap.size w w' := by
  have hne : s.data.toList ≠ [] := fun e => hs (by rw [← size_data, e]; rfl)
  have HS := hid (num_same s.data.toList hne)
  rw [hcs] at HS
  generalize numL s.data.toList = o at HS ⊢
  have HH := hid hC
  go_enter Tryd.func8, Tryd.ntmps8
  go_wp2_with fail
  go_loop [0] (fun x => ∃ t : ByteArray, x = .string t ∧ t.size ≠ 0 ∧ t.size ≤ 1048576 ∧ Hid (C = cutL t.data.toList)) (fun x => szOf x)
  case atStart => exact ⟨s, rfl, hs, hm, hcs.symm⟩
  case round =>
    obtain ⟨t, rfl, ht0, htm, HC⟩ := hrel
    obtain ⟨N, hN⟩ : ∃ N, t.size = N + 1 := ⟨t.size - 1, by omega⟩
    have hlt : N < t.size := by omega
    have hwn : IntKind.i64.wrap ((t.size : Int) - 1) = (N : Int) := by rw [IntKind.wrap_i64]; omega
    have hN0 : (0 : Int) ≤ (N : Int) := by omega
    have hNt : (N : Int) < (t.size : Int) := by omega
    have hNt2 : (N : Int) ≤ (t.size : Int) := by omega
    have htl := tail_iff (t[N])
    by_cases hmore : 0 < N ∧ isTail (t[N]) = true
    · have HC2 : Hid (C = cutL (t.extract 0 N).data.toList) := by
        show _ = _
        rw [HC.out]
        exact cut_more t N hN hmore.1 hmore.2
      rw [hmore.2] at htl
      have hn1 : (1 : Int) < (t.size : Int) := by omega
      have hsz : (t.extract 0 N).size = N := by rw [ByteArray.size_extract]; omega
      simp only [Bool.true_eq, Bool.or_eq_true, beq_iff_eq] at htl
      have hN1 := hmore.1
      clear HC hmore hN
      rcases htl with ((h | h) | h) | h
      all_goals go_wp2_with fail
      all_goals exact ⟨⟨_, rfl, by omega, by omega, HC2.out⟩, by simp only [szOf]; omega⟩
    · have HT : Hid (C = t.data.toList) := by
        show _ = _
        rw [HC.out]
        exact cut_end t N hN (by
          rcases Nat.eq_zero_or_pos N with h | h
          · exact .inl h
          · exact .inr (by cases hx : isTail (t[N]) with | false => rfl | true => exact absurd ⟨h, hx⟩ hmore))
      have h0s : 0 < t.size := by omega
      have hlen : C.length = t.size := by rw [HT.out, size_data]
      have hC0 : byteAt C 0 = t[0] := by rw [HT.out, ← byte_at t 0 h0s]
      have hC := HH.out
      rw [hC0, hlen] at hC
      obtain ⟨h2, hz', hx'⟩ := hC
      have h1t : 1 < t.size := by omega
      have hx0 : byteAt C 1 = t[1]'h1t := (congrArg (fun l => byteAt l 1) HT.out).trans (byte_at t 1 h1t).symm
      rw [hx0] at hx'
      have h1 : 1 < t.size := by omega
      have hcT : isTail (t[N]) = false := by cases hx : isTail (t[N]) with | false => rfl | true => exact absurd ⟨by omega, hx⟩ hmore
      rw [hcT] at htl
      have htl' := htl.symm
      simp only [Bool.or_eq_false_iff] at htl'
      obtain ⟨⟨⟨n1, n2⟩, n3⟩, n4⟩ := htl'
      have m1 : ((t[N].toNat : Int) != 117) = true := by simpa using n1
      have m2 : ((t[N].toNat : Int) != 85) = true := by simpa using n2
      have m3 : ((t[N].toNat : Int) != 108) = true := by simpa using n3
      have m4 : ((t[N].toNat : Int) != 76) = true := by simpa using n4
      have hn1 : (1 : Int) < (t.size : Int) := by omega
      have h0i : (0 : Int) < (t.size : Int) := by omega
      have h1l : (1 : Int) ≤ (t.size : Int) := by omega
      clear htl hmore n1 n2 n3 n4 hcT
      have hz : (t[0].toNat : Int) = 48 := by rw [hz']; rfl
      have x1 : ((t[1].toNat : Int) == 120) = false := by rw [beq_eq_false_iff_ne]; exact fun e => hx' (.inl (by rw [u8i]; exact e))
      have x2 : ((t[1].toNat : Int) == 88) = false := by rw [beq_eq_false_iff_ne]; exact fun e => hx' (.inr (by rw [u8i]; exact e))
      have h2i : (2 : Int) < (t.size : Int) := by omega
      have hU : (t.extract 1 (N + 1)).size = N := by rw [ByteArray.size_extract]; omega
      have hN1 : 0 < N := by omega
      have HO : Hid (o = Option.map (fun n : Nat => (n : Int)) (rparsU 8 0 (t.extract 1 (N + 1)).data.toList)) := by
        show _ = _
        have he : (t.extract 1 (N + 1)).data.toList = t.data.toList.drop 1 := by rw [extract_data, ← hN, ← size_data, List.take_length]
        rw [HS.out (by rw [HT.out]; intro e; rw [← size_data, e] at h0s; simp at h0s), he, ← HT.out]
        unfold rnumL
        rw [if_neg (fun h => hx' (by rw [← hx0]; exact h.2.2)), if_pos ⟨by rw [hlen]; omega, by rw [hC0]; exact hz'⟩]
      clear HH HS hC HC
      clear hz' hx' hx0 hC0 hlen
      go_wp2_with fail
      go_region
      have hB : ∀ j, j < (t.extract 1 (N + 1)).size → (Lib.bytesWorld w.drew 5 (t.extract 1 (N + 1))).cell? ⟨w.heap.size, j, none⟩ = some (.int .u8 ((t.extract 1 (N + 1)).data.toList.getD j 0).toNat) := fun j hj => conv_cell w 5 (t.extract 1 (N + 1)) j hj
      have hcv := Lib.run_convert_string_bytes (P := Tryd.prog) w.drew 9 65 5 (t.extract 1 (N + 1)) (u := .string) Tryd.underlying9 Tryd.underlying65 Tryd.underlying5
      have HBw : Hid (Below w.heap.size w (Lib.bytesWorld w.drew 5 (t.extract 1 (N + 1)))) := conv_below w _ _
      have hLn : (t.extract 1 (N + 1)).data.toList.length = (t.extract 1 (N + 1)).size := size_data _
      generalize hW1 : Lib.bytesWorld w.drew 5 (t.extract 1 (N + 1)) = W1 at hB hcv HBw
      clear hW1
      rw [drew_size] at hcv
      generalize (t.extract 1 (N + 1)).data.toList = bs at hB hLn HO
      generalize t.extract 1 (N + 1) = u at hB hcv hLn hU
      go_wp2_with fail
      go_loop [6, 70] (fun vn vi => ∃ k acc : Nat, vn = .int .i64 (acc : Int) ∧ vi = .int .i64 (k : Int) ∧ k ≤ u.size ∧ Hid (acc ≤ 9223372036854775807 ∧ rparsU 8 0 bs = rparsU 8 acc (bs.drop k))) (fun _ vi => u.size - (intOf vi).toNat)
      case atStart => exact ⟨0, 0, rfl, rfl, Nat.zero_le _, by omega, rfl⟩
      case round =>
        obtain ⟨k, acc, rfl, rfl, hk, hh⟩ := hrel
        obtain ⟨hacc, hdec⟩ := hh.out
        clear hh
        by_cases hkn : k < u.size
        · have hc := hB k hkn
          have hdrop : bs.drop k = bs[k]'(by omega) :: bs.drop (k + 1) := List.drop_eq_getElem_cons (by omega)
          have hget : bs.getD k 0 = bs[k]'(by omega) := by simp [List.getD, List.getElem?_eq_getElem (show k < bs.length by omega)]
          rw [hdrop] at hdec
          rw [hget] at hc
          obtain ⟨c, hcd⟩ : ∃ c, bs[k]'(by omega) = c := ⟨_, rfl⟩
          rw [hcd] at hc hdec
          clear hcd hB
          have HD := hid hdec
          have hki : (k : Int) < (u.size : Int) := by omega
          have hk0 : (0 : Int) ≤ (k : Int) := by omega
          have ha0 : (0 : Int) ≤ (acc : Int) := by omega
          have hai : (acc : Int) ≤ 9223372036854775807 := by omega
          clear hdec hdrop hget
          by_cases h48 : 48 ≤ c.toNat ∧ c.toNat ≤ 57
          · obtain ⟨x1, x2⟩ := h48
            have y1 : (48 : Int) ≤ (c.toNat : Int) := by omega
            have y2 : (c.toNat : Int) ≤ 57 := by omega
            have HG : Hid (digR c = c.toNat - 48) := by show _ = _; unfold digR; repeat (first | rw [if_pos (by omega)] | rw [if_neg (by omega)])
            have hdd : ((c.toNat - 48 : Nat) : Int) = (c.toNat : Int) - 48 := by omega
            by_cases hb1 : 8 ≤ c.toNat - 48
            · have HN : Hid (o = none) := by
                show _ = _
                rw [HO.out, HD.out]
                unfold rparsU
                rw [HG.out, if_pos (.inl hb1)]
                all_goals rfl
              have hb1i : (8 : Int) ≤ (c.toNat : Int) - 48 := by omega
              clear HG HD hdd
              go_wp2_with fail
              all_goals go_ret2
              all_goals exact ⟨ret_opt (by rw [HN.out]; rfl) (by rw [HN.out]; rfl), HBw.out⟩
            have hb1i : ¬ ((8 : Int) ≤ (c.toNat : Int) - 48) := by omega
            obtain ⟨q, hq, hwq, hqi, hgo⟩ := num_step 8 (by decide) (c.toNat - 48) (by omega) acc
            rw [hdd, show ((8 : Nat) : Int) = 8 from rfl] at hqi hgo
            by_cases hb2 : q < acc
            · have HN : Hid (o = none) := by
                show _ = _
                rw [HO.out, HD.out]
                unfold rparsU
                rw [HG.out, if_pos (.inr (by rw [← hq]; exact hb2))]
                all_goals rfl
              have hb2i : (q : Int) < (acc : Int) := Int.ofNat_lt.2 hb2
              clear HG HD hq hgo hdd
              go_wp2_with fail
              all_goals go_ret2
              all_goals exact ⟨ret_opt (by rw [HN.out]; rfl) (by rw [HN.out]; rfl), HBw.out⟩
            · obtain ⟨hN, hle, hle0, hge, hnew⟩ := hgo hb2
              have HN : Hid (8 * acc + (c.toNat - 48) ≤ 9223372036854775807 ∧ rparsU 8 0 bs = rparsU 8 (8 * acc + (c.toNat - 48)) (bs.drop (k + 1))) := by
                refine ⟨hN, ?_⟩
                rw [HD.out]
                conv => lhs; unfold rparsU
                rw [HG.out, if_neg (fun h => h.elim hb1 (fun h => hb2 (by rw [hq]; exact h)))]
              have hb2i : ¬ ((q : Int) < (acc : Int)) := fun h => hb2 (Int.ofNat_lt.1 h)
              have HE := hid hnew
              clear HG HD hq hgo hdd hN hnew
              go_wp2_with fail
              exact ⟨⟨k + 1, 8 * acc + (c.toNat - 48), congrArg (Value.int .i64) HE.out, by go_num, by omega, HN.out⟩, by simp [intOf]; omega⟩
          by_cases h97 : 97 ≤ c.toNat ∧ c.toNat ≤ 102
          · obtain ⟨x1, x2⟩ := h97
            have y1 : (97 : Int) ≤ (c.toNat : Int) := by omega
            have y2 : (c.toNat : Int) ≤ 102 := by omega
            have HG : Hid (digR c = c.toNat - 97 + 10) := by show _ = _; unfold digR; repeat (first | rw [if_pos (by omega)] | rw [if_neg (by omega)])
            have hdd : ((c.toNat - 97 + 10 : Nat) : Int) = (c.toNat : Int) - 97 + 10 := by omega
            by_cases hb1 : 8 ≤ c.toNat - 97 + 10
            · have HN : Hid (o = none) := by
                show _ = _
                rw [HO.out, HD.out]
                unfold rparsU
                rw [HG.out, if_pos (.inl hb1)]
                all_goals rfl
              have hb1i : (8 : Int) ≤ (c.toNat : Int) - 97 + 10 := by omega
              clear HG HD hdd
              go_wp2_with fail
              all_goals go_ret2
              all_goals exact ⟨ret_opt (by rw [HN.out]; rfl) (by rw [HN.out]; rfl), HBw.out⟩
            exact absurd (by omega) hb1
          by_cases h65 : 65 ≤ c.toNat ∧ c.toNat ≤ 70
          · obtain ⟨x1, x2⟩ := h65
            have y1 : (65 : Int) ≤ (c.toNat : Int) := by omega
            have y2 : (c.toNat : Int) ≤ 70 := by omega
            have HG : Hid (digR c = c.toNat - 65 + 10) := by show _ = _; unfold digR; repeat (first | rw [if_pos (by omega)] | rw [if_neg (by omega)])
            have hdd : ((c.toNat - 65 + 10 : Nat) : Int) = (c.toNat : Int) - 65 + 10 := by omega
            by_cases hb1 : 8 ≤ c.toNat - 65 + 10
            · have HN : Hid (o = none) := by
                show _ = _
                rw [HO.out, HD.out]
                unfold rparsU
                rw [HG.out, if_pos (.inl hb1)]
                all_goals rfl
              have hb1i : (8 : Int) ≤ (c.toNat : Int) - 65 + 10 := by omega
              clear HG HD hdd
              go_wp2_with fail
              all_goals go_ret2
              all_goals exact ⟨ret_opt (by rw [HN.out]; rfl) (by rw [HN.out]; rfl), HBw.out⟩
            exact absurd (by omega) hb1
          have HN : Hid (o = none) := by
            show _ = _
            rw [HO.out, HD.out]
            unfold rparsU
            have hg : digR c = 99 := by unfold digR; rw [if_neg h48, if_neg h97, if_neg h65]
            rw [hg, if_pos (.inl (by omega))]
            all_goals rfl
          have g1 : ¬ ((48 : Int) ≤ (c.toNat : Int) ∧ (c.toNat : Int) ≤ 57) := by omega
          have g2 : ¬ ((97 : Int) ≤ (c.toNat : Int) ∧ (c.toNat : Int) ≤ 102) := by omega
          have g3 : ¬ ((65 : Int) ≤ (c.toNat : Int) ∧ (c.toNat : Int) ≤ 70) := by omega
          clear HD
          go_wp2_with fail
          all_goals first | (exfalso; omega) | (go_ret2; exact ⟨ret_opt (by rw [HN.out]; rfl) (by rw [HN.out]; rfl), HBw.out⟩)
        · obtain rfl : k = u.size := by omega
          have HN : Hid (o = some (acc : Int)) := by
            show _ = _
            rw [HO.out, hdec, List.drop_of_length_le (by omega)]
            all_goals rfl
          have hup : (0 : Int) < (u.size : Int) := by omega
          clear hdec
          go_wp2_with fail
          go_ret2
          exact ⟨ret_opt (by rw [HN.out]; rfl) (by rw [HN.out]; first | rfl | (simp; done) | (simp; omega)), HBw.out⟩

set_option maxRecDepth 100000 in
set_option maxHeartbeats 2000000 in
theorem RNum_B2 (s : ByteArray) (hs : s.size ≠ 0) (hm : s.size ≤ 1048576) (C : List UInt8) (hcs : cutL s.data.toList = C) (hC : 2 = C.length ∧ byteAt C 0 = 48) (w : World) : Calls Tryd.prog 8 #[.string s] w fun e w' => e = .returned (optV (numL s.data.toList)) ∧ Below w.heap.size w w' := by
  have hne : s.data.toList ≠ [] := fun e => hs (by rw [← size_data, e]; rfl)
  have HS := hid (num_same s.data.toList hne)
  rw [hcs] at HS
  generalize numL s.data.toList = o at HS ⊢
  have HH := hid hC
  go_enter Tryd.func8, Tryd.ntmps8
  go_wp2_with fail
  go_loop [0] (fun x => ∃ t : ByteArray, x = .string t ∧ t.size ≠ 0 ∧ t.size ≤ 1048576 ∧ Hid (C = cutL t.data.toList)) (fun x => szOf x)
  case atStart => exact ⟨s, rfl, hs, hm, hcs.symm⟩
  case round =>
    obtain ⟨t, rfl, ht0, htm, HC⟩ := hrel
    obtain ⟨N, hN⟩ : ∃ N, t.size = N + 1 := ⟨t.size - 1, by omega⟩
    have hlt : N < t.size := by omega
    have hwn : IntKind.i64.wrap ((t.size : Int) - 1) = (N : Int) := by rw [IntKind.wrap_i64]; omega
    have hN0 : (0 : Int) ≤ (N : Int) := by omega
    have hNt : (N : Int) < (t.size : Int) := by omega
    have hNt2 : (N : Int) ≤ (t.size : Int) := by omega
    have htl := tail_iff (t[N])
    by_cases hmore : 0 < N ∧ isTail (t[N]) = true
    · have HC2 : Hid (C = cutL (t.extract 0 N).data.toList) := by
        show _ = _
        rw [HC.out]
        exact cut_more t N hN hmore.1 hmore.2
      rw [hmore.2] at htl
      have hn1 : (1 : Int) < (t.size : Int) := by omega
      have hsz : (t.extract 0 N).size = N := by rw [ByteArray.size_extract]; omega
      simp only [Bool.true_eq, Bool.or_eq_true, beq_iff_eq] at htl
      have hN1 := hmore.1
      clear HC hmore hN
      rcases htl with ((h | h) | h) | h
      all_goals go_wp2_with fail
      all_goals exact ⟨⟨_, rfl, by omega, by omega, HC2.out⟩, by simp only [szOf]; omega⟩
    · have HT : Hid (C = t.data.toList) := by
        show _ = _
        rw [HC.out]
        exact cut_end t N hN (by
          rcases Nat.eq_zero_or_pos N with h | h
          · exact .inl h
          · exact .inr (by cases hx : isTail (t[N]) with | false => rfl | true => exact absurd ⟨h, hx⟩ hmore))
      have h0s : 0 < t.size := by omega
      have hlen : C.length = t.size := by rw [HT.out, size_data]
      have hC0 : byteAt C 0 = t[0] := by rw [HT.out, ← byte_at t 0 h0s]
      have hC := HH.out
      rw [hC0, hlen] at hC
      obtain ⟨h2, hz'⟩ := hC
      have h1 : 1 < t.size := by omega
      have hcT : isTail (t[N]) = false := by cases hx : isTail (t[N]) with | false => rfl | true => exact absurd ⟨by omega, hx⟩ hmore
      rw [hcT] at htl
      have htl' := htl.symm
      simp only [Bool.or_eq_false_iff] at htl'
      obtain ⟨⟨⟨n1, n2⟩, n3⟩, n4⟩ := htl'
      have m1 : ((t[N].toNat : Int) != 117) = true := by simpa using n1
      have m2 : ((t[N].toNat : Int) != 85) = true := by simpa using n2
      have m3 : ((t[N].toNat : Int) != 108) = true := by simpa using n3
      have m4 : ((t[N].toNat : Int) != 76) = true := by simpa using n4
      have hn1 : (1 : Int) < (t.size : Int) := by omega
      have h0i : (0 : Int) < (t.size : Int) := by omega
      have h1l : (1 : Int) ≤ (t.size : Int) := by omega
      clear htl hmore n1 n2 n3 n4 hcT
      have hz : (t[0].toNat : Int) = 48 := by rw [hz']; rfl
      have h2i : ¬ ((2 : Int) < (t.size : Int)) := by omega
      have hU : (t.extract 1 (N + 1)).size = N := by rw [ByteArray.size_extract]; omega
      have hN1 : 0 < N := by omega
      have H2 := hid h2
      clear h2
      have HO : Hid (o = Option.map (fun n : Nat => (n : Int)) (rparsU 8 0 (t.extract 1 (N + 1)).data.toList)) := by
        show _ = _
        have he : (t.extract 1 (N + 1)).data.toList = t.data.toList.drop 1 := by rw [extract_data, ← hN, ← size_data, List.take_length]
        rw [HS.out (by rw [HT.out]; intro e; rw [← size_data, e] at h0s; simp at h0s), he, ← HT.out]
        unfold rnumL
        rw [if_neg (fun h => by have := h.1; have := H2.out; rw [hlen] at *; omega), if_pos ⟨by rw [hlen]; omega, by rw [hC0]; exact hz'⟩]
      clear HH HS hC HC
      clear hz' hC0 hlen
      go_wp2_with fail
      go_region
      have hB : ∀ j, j < (t.extract 1 (N + 1)).size → (Lib.bytesWorld w.drew 5 (t.extract 1 (N + 1))).cell? ⟨w.heap.size, j, none⟩ = some (.int .u8 ((t.extract 1 (N + 1)).data.toList.getD j 0).toNat) := fun j hj => conv_cell w 5 (t.extract 1 (N + 1)) j hj
      have hcv := Lib.run_convert_string_bytes (P := Tryd.prog) w.drew 9 65 5 (t.extract 1 (N + 1)) (u := .string) Tryd.underlying9 Tryd.underlying65 Tryd.underlying5
      have HBw : Hid (Below w.heap.size w (Lib.bytesWorld w.drew 5 (t.extract 1 (N + 1)))) := conv_below w _ _
      have hLn : (t.extract 1 (N + 1)).data.toList.length = (t.extract 1 (N + 1)).size := size_data _
      generalize hW1 : Lib.bytesWorld w.drew 5 (t.extract 1 (N + 1)) = W1 at hB hcv HBw
      clear hW1
      rw [drew_size] at hcv
      generalize (t.extract 1 (N + 1)).data.toList = bs at hB hLn HO
      generalize t.extract 1 (N + 1) = u at hB hcv hLn hU
      go_wp2_with fail
      go_loop [6, 70] (fun vn vi => ∃ k acc : Nat, vn = .int .i64 (acc : Int) ∧ vi = .int .i64 (k : Int) ∧ k ≤ u.size ∧ Hid (acc ≤ 9223372036854775807 ∧ rparsU 8 0 bs = rparsU 8 acc (bs.drop k))) (fun _ vi => u.size - (intOf vi).toNat)
      case atStart => exact ⟨0, 0, rfl, rfl, Nat.zero_le _, by omega, rfl⟩
      case round =>
        obtain ⟨k, acc, rfl, rfl, hk, hh⟩ := hrel
        obtain ⟨hacc, hdec⟩ := hh.out
        clear hh
        by_cases hkn : k < u.size
        · have hc := hB k hkn
          have hdrop : bs.drop k = bs[k]'(by omega) :: bs.drop (k + 1) := List.drop_eq_getElem_cons (by omega)
          have hget : bs.getD k 0 = bs[k]'(by omega) := by simp [List.getD, List.getElem?_eq_getElem (show k < bs.length by omega)]
          rw [hdrop] at hdec
          rw [hget] at hc
          obtain ⟨c, hcd⟩ : ∃ c, bs[k]'(by omega) = c := ⟨_, rfl⟩
          rw [hcd] at hc hdec
          clear hcd hB
          have HD := hid hdec
          have hki : (k : Int) < (u.size : Int) := by omega
          have hk0 : (0 : Int) ≤ (k : Int) := by omega
          have ha0 : (0 : Int) ≤ (acc : Int) := by omega
          have hai : (acc : Int) ≤ 9223372036854775807 := by omega
          clear hdec hdrop hget
          by_cases h48 : 48 ≤ c.toNat ∧ c.toNat ≤ 57
          · obtain ⟨x1, x2⟩ := h48
            have y1 : (48 : Int) ≤ (c.toNat : Int) := by omega
            have y2 : (c.toNat : Int) ≤ 57 := by omega
            have HG : Hid (digR c = c.toNat - 48) := by show _ = _; unfold digR; repeat (first | rw [if_pos (by omega)] | rw [if_neg (by omega)])
            have hdd : ((c.toNat - 48 : Nat) : Int) = (c.toNat : Int) - 48 := by omega
            by_cases hb1 : 8 ≤ c.toNat - 48
            · have HN : Hid (o = none) := by
                show _ = _
                rw [HO.out, HD.out]
                unfold rparsU
                rw [HG.out, if_pos (.inl hb1)]
                all_goals rfl
              have hb1i : (8 : Int) ≤ (c.toNat : Int) - 48 := by omega
              clear HG HD hdd
              go_wp2_with fail
              all_goals go_ret2
              all_goals exact ⟨ret_opt (by rw [HN.out]; rfl) (by rw [HN.out]; rfl), HBw.out⟩
            have hb1i : ¬ ((8 : Int) ≤ (c.toNat : Int) - 48) := by omega
            obtain ⟨q, hq, hwq, hqi, hgo⟩ := num_step 8 (by decide) (c.toNat - 48) (by omega) acc
            rw [hdd, show ((8 : Nat) : Int) = 8 from rfl] at hqi hgo
            by_cases hb2 : q < acc
            · have HN : Hid (o = none) := by
                show _ = _
                rw [HO.out, HD.out]
                unfold rparsU
                rw [HG.out, if_pos (.inr (by rw [← hq]; exact hb2))]
                all_goals rfl
              have hb2i : (q : Int) < (acc : Int) := Int.ofNat_lt.2 hb2
              clear HG HD hq hgo hdd
              go_wp2_with fail
              all_goals go_ret2
              all_goals exact ⟨ret_opt (by rw [HN.out]; rfl) (by rw [HN.out]; rfl), HBw.out⟩
            · obtain ⟨hN, hle, hle0, hge, hnew⟩ := hgo hb2
              have HN : Hid (8 * acc + (c.toNat - 48) ≤ 9223372036854775807 ∧ rparsU 8 0 bs = rparsU 8 (8 * acc + (c.toNat - 48)) (bs.drop (k + 1))) := by
                refine ⟨hN, ?_⟩
                rw [HD.out]
                conv => lhs; unfold rparsU
                rw [HG.out, if_neg (fun h => h.elim hb1 (fun h => hb2 (by rw [hq]; exact h)))]
              have hb2i : ¬ ((q : Int) < (acc : Int)) := fun h => hb2 (Int.ofNat_lt.1 h)
              have HE := hid hnew
              clear HG HD hq hgo hdd hN hnew
              go_wp2_with fail
              exact ⟨⟨k + 1, 8 * acc + (c.toNat - 48), congrArg (Value.int .i64) HE.out, by go_num, by omega, HN.out⟩, by simp [intOf]; omega⟩
          by_cases h97 : 97 ≤ c.toNat ∧ c.toNat ≤ 102
          · obtain ⟨x1, x2⟩ := h97
            have y1 : (97 : Int) ≤ (c.toNat : Int) := by omega
            have y2 : (c.toNat : Int) ≤ 102 := by omega
            have HG : Hid (digR c = c.toNat - 97 + 10) := by show _ = _; unfold digR; repeat (first | rw [if_pos (by omega)] | rw [if_neg (by omega)])
            have hdd : ((c.toNat - 97 + 10 : Nat) : Int) = (c.toNat : Int) - 97 + 10 := by omega
            by_cases hb1 : 8 ≤ c.toNat - 97 + 10
            · have HN : Hid (o = none) := by
                show _ = _
                rw [HO.out, HD.out]
                unfold rparsU
                rw [HG.out, if_pos (.inl hb1)]
                all_goals rfl
              have hb1i : (8 : Int) ≤ (c.toNat : Int) - 97 + 10 := by omega
              clear HG HD hdd
              go_wp2_with fail
              all_goals go_ret2
              all_goals exact ⟨ret_opt (by rw [HN.out]; rfl) (by rw [HN.out]; rfl), HBw.out⟩
            exact absurd (by omega) hb1
          by_cases h65 : 65 ≤ c.toNat ∧ c.toNat ≤ 70
          · obtain ⟨x1, x2⟩ := h65
            have y1 : (65 : Int) ≤ (c.toNat : Int) := by omega
            have y2 : (c.toNat : Int) ≤ 70 := by omega
            have HG : Hid (digR c = c.toNat - 65 + 10) := by show _ = _; unfold digR; repeat (first | rw [if_pos (by omega)] | rw [if_neg (by omega)])
            have hdd : ((c.toNat - 65 + 10 : Nat) : Int) = (c.toNat : Int) - 65 + 10 := by omega
            by_cases hb1 : 8 ≤ c.toNat - 65 + 10
            · have HN : Hid (o = none) := by
                show _ = _
                rw [HO.out, HD.out]
                unfold rparsU
                rw [HG.out, if_pos (.inl hb1)]
                all_goals rfl
              have hb1i : (8 : Int) ≤ (c.toNat : Int) - 65 + 10 := by omega
              clear HG HD hdd
              go_wp2_with fail
              all_goals go_ret2
              all_goals exact ⟨ret_opt (by rw [HN.out]; rfl) (by rw [HN.out]; rfl), HBw.out⟩
            exact absurd (by omega) hb1
          have HN : Hid (o = none) := by
            show _ = _
            rw [HO.out, HD.out]
            unfold rparsU
            have hg : digR c = 99 := by unfold digR; rw [if_neg h48, if_neg h97, if_neg h65]
            rw [hg, if_pos (.inl (by omega))]
            all_goals rfl
          have g1 : ¬ ((48 : Int) ≤ (c.toNat : Int) ∧ (c.toNat : Int) ≤ 57) := by omega
          have g2 : ¬ ((97 : Int) ≤ (c.toNat : Int) ∧ (c.toNat : Int) ≤ 102) := by omega
          have g3 : ¬ ((65 : Int) ≤ (c.toNat : Int) ∧ (c.toNat : Int) ≤ 70) := by omega
          clear HD
          go_wp2_with fail
          all_goals first | (exfalso; omega) | (go_ret2; exact ⟨ret_opt (by rw [HN.out]; rfl) (by rw [HN.out]; rfl), HBw.out⟩)
        · obtain rfl : k = u.size := by omega
          have HN : Hid (o = some (acc : Int)) := by
            show _ = _
            rw [HO.out, hdec, List.drop_of_length_le (by omega)]
            all_goals rfl
          have hup : (0 : Int) < (u.size : Int) := by omega
          clear hdec
          go_wp2_with fail
          go_ret2
          exact ⟨ret_opt (by rw [HN.out]; rfl) (by rw [HN.out]; first | rfl | (simp; done) | (simp; omega)), HBw.out⟩

end Go.Proofs.YtienjifhkmekcaaDoor
namespace Go.Proofs.YtienjifhkmekcaaDoor
open Go.RowKit Go.Shelf

set_option maxRecDepth 100000 in
set_option maxHeartbeats 2000000 in
theorem RNum_C1 (s : ByteArray) (hs : s.size ≠ 0) (hm : s.size ≤ 1048576) (C : List UInt8) (hcs : cutL s.data.toList = C) (hC : 2 < C.length ∧ byteAt C 0 ≠ 48) (w : World) : Calls Tryd.prog 8 #[.string s] w fun e w' => e = .returned (optV (numL s.data.toList)) ∧ Below w.heap.size w w' := by
  have hne : s.data.toList ≠ [] := fun e => hs (by rw [← size_data, e]; rfl)
  have HS := hid (num_same s.data.toList hne)
  rw [hcs] at HS
  generalize numL s.data.toList = o at HS ⊢
  have HH := hid hC
  go_enter Tryd.func8, Tryd.ntmps8
  go_wp2_with fail
  go_loop [0] (fun x => ∃ t : ByteArray, x = .string t ∧ t.size ≠ 0 ∧ t.size ≤ 1048576 ∧ Hid (C = cutL t.data.toList)) (fun x => szOf x)
  case atStart => exact ⟨s, rfl, hs, hm, hcs.symm⟩
  case round =>
    obtain ⟨t, rfl, ht0, htm, HC⟩ := hrel
    obtain ⟨N, hN⟩ : ∃ N, t.size = N + 1 := ⟨t.size - 1, by omega⟩
    have hlt : N < t.size := by omega
    have hwn : IntKind.i64.wrap ((t.size : Int) - 1) = (N : Int) := by rw [IntKind.wrap_i64]; omega
    have hN0 : (0 : Int) ≤ (N : Int) := by omega
    have hNt : (N : Int) < (t.size : Int) := by omega
    have hNt2 : (N : Int) ≤ (t.size : Int) := by omega
    have htl := tail_iff (t[N])
    by_cases hmore : 0 < N ∧ isTail (t[N]) = true
    · have HC2 : Hid (C = cutL (t.extract 0 N).data.toList) := by
        show _ = _
        rw [HC.out]
        exact cut_more t N hN hmore.1 hmore.2
      rw [hmore.2] at htl
      have hn1 : (1 : Int) < (t.size : Int) := by omega
      have hsz : (t.extract 0 N).size = N := by rw [ByteArray.size_extract]; omega
      simp only [Bool.true_eq, Bool.or_eq_true, beq_iff_eq] at htl
      have hN1 := hmore.1
      clear HC hmore hN
      rcases htl with ((h | h) | h) | h
      all_goals go_wp2_with fail
      all_goals exact ⟨⟨_, rfl, by omega, by omega, HC2.out⟩, by simp only [szOf]; omega⟩
    · have HT : Hid (C = t.data.toList) := by
        show _ = _
        rw [HC.out]
        exact cut_end t N hN (by
          rcases Nat.eq_zero_or_pos N with h | h
          · exact .inl h
          · exact .inr (by cases hx : isTail (t[N]) with | false => rfl | true => exact absurd ⟨h, hx⟩ hmore))
      have h0s : 0 < t.size := by omega
      have hlen : C.length = t.size := by rw [HT.out, size_data]
      have hC0 : byteAt C 0 = t[0] := by rw [HT.out, ← byte_at t 0 h0s]
      have hC := HH.out
      rw [hC0, hlen] at hC
      obtain ⟨h2, hz'⟩ := hC
      have h1 : 1 < t.size := by omega
      have hcT : isTail (t[N]) = false := by cases hx : isTail (t[N]) with | false => rfl | true => exact absurd ⟨by omega, hx⟩ hmore
      rw [hcT] at htl
      have htl' := htl.symm
      simp only [Bool.or_eq_false_iff] at htl'
      obtain ⟨⟨⟨n1, n2⟩, n3⟩, n4⟩ := htl'
      have m1 : ((t[N].toNat : Int) != 117) = true := by simpa using n1
      have m2 : ((t[N].toNat : Int) != 85) = true := by simpa using n2
      have m3 : ((t[N].toNat : Int) != 108) = true := by simpa using n3
      have m4 : ((t[N].toNat : Int) != 76) = true := by simpa using n4
      have hn1 : (1 : Int) < (t.size : Int) := by omega
      have h0i : (0 : Int) < (t.size : Int) := by omega
      have h1l : (1 : Int) ≤ (t.size : Int) := by omega
      clear htl hmore n1 n2 n3 n4 hcT
      have z0 : ((t[0].toNat : Int) == 48) = false := by rw [beq_eq_false_iff_ne]; exact fun e => hz' (by rw [u8i]; exact e)
      have h2i : (2 : Int) < (t.size : Int) := by omega
      have hU : 0 < t.size := h0s
      clear h2
      have HO : Hid (o = Option.map (fun n : Nat => (n : Int)) (rparsU 10 0 (t).data.toList)) := by
        show _ = _
        rw [HS.out (by rw [HT.out]; intro e; rw [← size_data, e] at h0s; simp at h0s), ← HT.out]
        unfold rnumL
        rw [if_neg (fun h => hz' (by rw [← hC0]; exact h.2.1)), if_neg (fun h => hz' (by rw [← hC0]; exact h.2))]
      clear HH HS hC HC
      clear hz' hC0 hlen
      have hB : ∀ j, j < (t).size → (Lib.bytesWorld w 5 (t)).cell? ⟨w.heap.size, j, none⟩ = some (.int .u8 ((t).data.toList.getD j 0).toNat) := fun j hj => conv_cell0 w 5 (t) j hj
      have hcv := Lib.run_convert_string_bytes (P := Tryd.prog) w 9 65 5 (t) (u := .string) Tryd.underlying9 Tryd.underlying65 Tryd.underlying5
      have HBw : Hid (Below w.heap.size w (Lib.bytesWorld w 5 (t))) := conv_below0 w _ _
      have hLn : (t).data.toList.length = (t).size := size_data _
      generalize hW1 : Lib.bytesWorld w 5 (t) = W1 at hB hcv HBw
      clear hW1
      generalize (t).data.toList = bs at hB hLn HO
      go_wp2_with fail
      go_loop [6, 70] (fun vn vi => ∃ k acc : Nat, vn = .int .i64 (acc : Int) ∧ vi = .int .i64 (k : Int) ∧ k ≤ t.size ∧ Hid (acc ≤ 9223372036854775807 ∧ rparsU 10 0 bs = rparsU 10 acc (bs.drop k))) (fun _ vi => t.size - (intOf vi).toNat)
      case atStart => exact ⟨0, 0, rfl, rfl, Nat.zero_le _, by omega, rfl⟩
      case round =>
        obtain ⟨k, acc, rfl, rfl, hk, hh⟩ := hrel
        obtain ⟨hacc, hdec⟩ := hh.out
        clear hh
        by_cases hkn : k < t.size
        · have hc := hB k hkn
          have hdrop : bs.drop k = bs[k]'(by omega) :: bs.drop (k + 1) := List.drop_eq_getElem_cons (by omega)
          have hget : bs.getD k 0 = bs[k]'(by omega) := by simp [List.getD, List.getElem?_eq_getElem (show k < bs.length by omega)]
          rw [hdrop] at hdec
          rw [hget] at hc
          obtain ⟨c, hcd⟩ : ∃ c, bs[k]'(by omega) = c := ⟨_, rfl⟩
          rw [hcd] at hc hdec
          clear hcd hB
          have HD := hid hdec
          have hki : (k : Int) < (t.size : Int) := by omega
          have hk0 : (0 : Int) ≤ (k : Int) := by omega
          have ha0 : (0 : Int) ≤ (acc : Int) := by omega
          have hai : (acc : Int) ≤ 9223372036854775807 := by omega
          clear hdec hdrop hget
          by_cases h48 : 48 ≤ c.toNat ∧ c.toNat ≤ 57
          · obtain ⟨x1, x2⟩ := h48
            have y1 : (48 : Int) ≤ (c.toNat : Int) := by omega
            have y2 : (c.toNat : Int) ≤ 57 := by omega
            have HG : Hid (digR c = c.toNat - 48) := by show _ = _; unfold digR; repeat (first | rw [if_pos (by omega)] | rw [if_neg (by omega)])
            have hdd : ((c.toNat - 48 : Nat) : Int) = (c.toNat : Int) - 48 := by omega
            by_cases hb1 : 10 ≤ c.toNat - 48
            · have HN : Hid (o = none) := by
                show _ = _
                rw [HO.out, HD.out]
                unfold rparsU
                rw [HG.out, if_pos (.inl hb1)]
                all_goals rfl
              have hb1i : (10 : Int) ≤ (c.toNat : Int) - 48 := by omega
              clear HG HD hdd
              go_wp2_with fail
              all_goals go_ret2
              all_goals exact ⟨ret_opt (by rw [HN.out]; rfl) (by rw [HN.out]; rfl), HBw.out⟩
            have hb1i : ¬ ((10 : Int) ≤ (c.toNat : Int) - 48) := by omega
            obtain ⟨q, hq, hwq, hqi, hgo⟩ := num_step 10 (by decide) (c.toNat - 48) (by omega) acc
            rw [hdd, show ((10 : Nat) : Int) = 10 from rfl] at hqi hgo
            by_cases hb2 : q < acc
            · have HN : Hid (o = none) := by
                show _ = _
                rw [HO.out, HD.out]
                unfold rparsU
                rw [HG.out, if_pos (.inr (by rw [← hq]; exact hb2))]
                all_goals rfl
              have hb2i : (q : Int) < (acc : Int) := Int.ofNat_lt.2 hb2
              clear HG HD hq hgo hdd
              go_wp2_with fail
              all_goals go_ret2
              all_goals exact ⟨ret_opt (by rw [HN.out]; rfl) (by rw [HN.out]; rfl), HBw.out⟩
            · obtain ⟨hN, hle, hle0, hge, hnew⟩ := hgo hb2
              have HN : Hid (10 * acc + (c.toNat - 48) ≤ 9223372036854775807 ∧ rparsU 10 0 bs = rparsU 10 (10 * acc + (c.toNat - 48)) (bs.drop (k + 1))) := by
                refine ⟨hN, ?_⟩
                rw [HD.out]
                conv => lhs; unfold rparsU
                rw [HG.out, if_neg (fun h => h.elim hb1 (fun h => hb2 (by rw [hq]; exact h)))]
              have hb2i : ¬ ((q : Int) < (acc : Int)) := fun h => hb2 (Int.ofNat_lt.1 h)
              have HE := hid hnew
              clear HG HD hq hgo hdd hN hnew
              go_wp2_with fail
              exact ⟨⟨k + 1, 10 * acc + (c.toNat - 48), congrArg (Value.int .i64) HE.out, by go_num, by omega, HN.out⟩, by simp [intOf]; omega⟩
          by_cases h97 : 97 ≤ c.toNat ∧ c.toNat ≤ 102
          · obtain ⟨x1, x2⟩ := h97
            have y1 : (97 : Int) ≤ (c.toNat : Int) := by omega
            have y2 : (c.toNat : Int) ≤ 102 := by omega
            have HG : Hid (digR c = c.toNat - 97 + 10) := by show _ = _; unfold digR; repeat (first | rw [if_pos (by omega)] | rw [if_neg (by omega)])
            have hdd : ((c.toNat - 97 + 10 : Nat) : Int) = (c.toNat : Int) - 97 + 10 := by omega
            by_cases hb1 : 10 ≤ c.toNat - 97 + 10
            · have HN : Hid (o = none) := by
                show _ = _
                rw [HO.out, HD.out]
                unfold rparsU
                rw [HG.out, if_pos (.inl hb1)]
                all_goals rfl
              have hb1i : (10 : Int) ≤ (c.toNat : Int) - 97 + 10 := by omega
              clear HG HD hdd
              go_wp2_with fail
              all_goals go_ret2
              all_goals exact ⟨ret_opt (by rw [HN.out]; rfl) (by rw [HN.out]; rfl), HBw.out⟩
            exact absurd (by omega) hb1
          by_cases h65 : 65 ≤ c.toNat ∧ c.toNat ≤ 70
          · obtain ⟨x1, x2⟩ := h65
            have y1 : (65 : Int) ≤ (c.toNat : Int) := by omega
            have y2 : (c.toNat : Int) ≤ 70 := by omega
            have HG : Hid (digR c = c.toNat - 65 + 10) := by show _ = _; unfold digR; repeat (first | rw [if_pos (by omega)] | rw [if_neg (by omega)])
            have hdd : ((c.toNat - 65 + 10 : Nat) : Int) = (c.toNat : Int) - 65 + 10 := by omega
            by_cases hb1 : 10 ≤ c.toNat - 65 + 10
            · have HN : Hid (o = none) := by
                show _ = _
                rw [HO.out, HD.out]
                unfold rparsU
                rw [HG.out, if_pos (.inl hb1)]
                all_goals rfl
              have hb1i : (10 : Int) ≤ (c.toNat : Int) - 65 + 10 := by omega
              clear HG HD hdd
              go_wp2_with fail
              all_goals go_ret2
              all_goals exact ⟨ret_opt (by rw [HN.out]; rfl) (by rw [HN.out]; rfl), HBw.out⟩
            exact absurd (by omega) hb1
          have HN : Hid (o = none) := by
            show _ = _
            rw [HO.out, HD.out]
            unfold rparsU
            have hg : digR c = 99 := by unfold digR; rw [if_neg h48, if_neg h97, if_neg h65]
            rw [hg, if_pos (.inl (by omega))]
            all_goals rfl
          have g1 : ¬ ((48 : Int) ≤ (c.toNat : Int) ∧ (c.toNat : Int) ≤ 57) := by omega
          have g2 : ¬ ((97 : Int) ≤ (c.toNat : Int) ∧ (c.toNat : Int) ≤ 102) := by omega
          have g3 : ¬ ((65 : Int) ≤ (c.toNat : Int) ∧ (c.toNat : Int) ≤ 70) := by omega
          clear HD
          go_wp2_with fail
          all_goals first | (exfalso; omega) | (go_ret2; exact ⟨ret_opt (by rw [HN.out]; rfl) (by rw [HN.out]; rfl), HBw.out⟩)
        · obtain rfl : k = t.size := by omega
          have HN : Hid (o = some (acc : Int)) := by
            show _ = _
            rw [HO.out, hdec, List.drop_of_length_le (by omega)]
            all_goals rfl
          have hup : (0 : Int) < (t.size : Int) := by omega
          clear hdec
          go_wp2_with fail
          go_ret2
          exact ⟨ret_opt (by rw [HN.out]; rfl) (by rw [HN.out]; first | rfl | (simp; done) | (simp; omega)), HBw.out⟩

set_option maxRecDepth 100000 in
set_option maxHeartbeats 2000000 in
theorem RNum_C2 (s : ByteArray) (hs : s.size ≠ 0) (hm : s.size ≤ 1048576) (C : List UInt8) (hcs : cutL s.data.toList = C) (hC : 2 = C.length ∧ byteAt C 0 ≠ 48) (w : World) : Calls Tryd.prog 8 #[.string s] w fun e w' => e = .returned (optV (numL s.data.toList)) ∧ Below w.heap.size w w' := by
  have hne : s.data.toList ≠ [] := fun e => hs (by rw [← size_data, e]; rfl)
  have HS := hid (num_same s.data.toList hne)
  rw [hcs] at HS
  generalize numL s.data.toList = o at HS ⊢
  have HH := hid hC
  go_enter Tryd.func8, Tryd.ntmps8
  go_wp2_with fail
  go_loop [0] (fun x => ∃ t : ByteArray, x = .string t ∧ t.size ≠ 0 ∧ t.size ≤ 1048576 ∧ Hid (C = cutL t.data.toList)) (fun x => szOf x)
  case atStart => exact ⟨s, rfl, hs, hm, hcs.symm⟩
  case round =>
    obtain ⟨t, rfl, ht0, htm, HC⟩ := hrel
    obtain ⟨N, hN⟩ : ∃ N, t.size = N + 1 := ⟨t.size - 1, by omega⟩
    have hlt : N < t.size := by omega
    have hwn : IntKind.i64.wrap ((t.size : Int) - 1) = (N : Int) := by rw [IntKind.wrap_i64]; omega
    have hN0 : (0 : Int) ≤ (N : Int) := by omega
    have hNt : (N : Int) < (t.size : Int) := by omega
    have hNt2 : (N : Int) ≤ (t.size : Int) := by omega
    have htl := tail_iff (t[N])
    by_cases hmore : 0 < N ∧ isTail (t[N]) = true
    · have HC2 : Hid (C = cutL (t.extract 0 N).data.toList) := by
        show _ = _
        rw [HC.out]
        exact cut_more t N hN hmore.1 hmore.2
      rw [hmore.2] at htl
      have hn1 : (1 : Int) < (t.size : Int) := by omega
      have hsz : (t.extract 0 N).size = N := by rw [ByteArray.size_extract]; omega
      simp only [Bool.true_eq, Bool.or_eq_true, beq_iff_eq] at htl
      have hN1 := hmore.1
      clear HC hmore hN
      rcases htl with ((h | h) | h) | h
      all_goals go_wp2_with fail
      all_goals exact ⟨⟨_, rfl, by omega, by omega, HC2.out⟩, by simp only [szOf]; omega⟩
    · have HT : Hid (C = t.data.toList) := by
        show _ = _
        rw [HC.out]
        exact cut_end t N hN (by
          rcases Nat.eq_zero_or_pos N with h | h
          · exact .inl h
          · exact .inr (by cases hx : isTail (t[N]) with | false => rfl | true => exact absurd ⟨h, hx⟩ hmore))
      have h0s : 0 < t.size := by omega
      have hlen : C.length = t.size := by rw [HT.out, size_data]
      have hC0 : byteAt C 0 = t[0] := by rw [HT.out, ← byte_at t 0 h0s]
      have hC := HH.out
      rw [hC0, hlen] at hC
      obtain ⟨h2, hz'⟩ := hC
      have h1 : 1 < t.size := by omega
      have hcT : isTail (t[N]) = false := by cases hx : isTail (t[N]) with | false => rfl | true => exact absurd ⟨by omega, hx⟩ hmore
      rw [hcT] at htl
      have htl' := htl.symm
      simp only [Bool.or_eq_false_iff] at htl'
      obtain ⟨⟨⟨n1, n2⟩, n3⟩, n4⟩ := htl'
      have m1 : ((t[N].toNat : Int) != 117) = true := by simpa using n1
      have m2 : ((t[N].toNat : Int) != 85) = true := by simpa using n2
      have m3 : ((t[N].toNat : Int) != 108) = true := by simpa using n3
      have m4 : ((t[N].toNat : Int) != 76) = true := by simpa using n4
      have hn1 : (1 : Int) < (t.size : Int) := by omega
      have h0i : (0 : Int) < (t.size : Int) := by omega
      have h1l : (1 : Int) ≤ (t.size : Int) := by omega
      clear htl hmore n1 n2 n3 n4 hcT
      have z0 : ((t[0].toNat : Int) == 48) = false := by rw [beq_eq_false_iff_ne]; exact fun e => hz' (by rw [u8i]; exact e)
      have h2i : ¬ ((2 : Int) < (t.size : Int)) := by omega
      have hU : 0 < t.size := h0s
      clear h2
      have HO : Hid (o = Option.map (fun n : Nat => (n : Int)) (rparsU 10 0 (t).data.toList)) := by
        show _ = _
        rw [HS.out (by rw [HT.out]; intro e; rw [← size_data, e] at h0s; simp at h0s), ← HT.out]
        unfold rnumL
        rw [if_neg (fun h => hz' (by rw [← hC0]; exact h.2.1)), if_neg (fun h => hz' (by rw [← hC0]; exact h.2))]
      clear HH HS hC HC
      clear hz' hC0 hlen
      have hB : ∀ j, j < (t).size → (Lib.bytesWorld w 5 (t)).cell? ⟨w.heap.size, j, none⟩ = some (.int .u8 ((t).data.toList.getD j 0).toNat) := fun j hj => conv_cell0 w 5 (t) j hj
      have hcv := Lib.run_convert_string_bytes (P := Tryd.prog) w 9 65 5 (t) (u := .string) Tryd.underlying9 Tryd.underlying65 Tryd.underlying5
      have HBw : Hid (Below w.heap.size w (Lib.bytesWorld w 5 (t))) := conv_below0 w _ _
      have hLn : (t).data.toList.length = (t).size := size_data _
      generalize hW1 : Lib.bytesWorld w 5 (t) = W1 at hB hcv HBw
      clear hW1
      generalize (t).data.toList = bs at hB hLn HO
      go_wp2_with fail
      go_loop [6, 70] (fun vn vi => ∃ k acc : Nat, vn = .int .i64 (acc : Int) ∧ vi = .int .i64 (k : Int) ∧ k ≤ t.size ∧ Hid (acc ≤ 9223372036854775807 ∧ rparsU 10 0 bs = rparsU 10 acc (bs.drop k))) (fun _ vi => t.size - (intOf vi).toNat)
      case atStart => exact ⟨0, 0, rfl, rfl, Nat.zero_le _, by omega, rfl⟩
      case round =>
        obtain ⟨k, acc, rfl, rfl, hk, hh⟩ := hrel
        obtain ⟨hacc, hdec⟩ := hh.out
        clear hh
        by_cases hkn : k < t.size
        · have hc := hB k hkn
          have hdrop : bs.drop k = bs[k]'(by omega) :: bs.drop (k + 1) := List.drop_eq_getElem_cons (by omega)
          have hget : bs.getD k 0 = bs[k]'(by omega) := by simp [List.getD, List.getElem?_eq_getElem (show k < bs.length by omega)]
          rw [hdrop] at hdec
          rw [hget] at hc
          obtain ⟨c, hcd⟩ : ∃ c, bs[k]'(by omega) = c := ⟨_, rfl⟩
          rw [hcd] at hc hdec
          clear hcd hB
          have HD := hid hdec
          have hki : (k : Int) < (t.size : Int) := by omega
          have hk0 : (0 : Int) ≤ (k : Int) := by omega
          have ha0 : (0 : Int) ≤ (acc : Int) := by omega
          have hai : (acc : Int) ≤ 9223372036854775807 := by omega
          clear hdec hdrop hget
          by_cases h48 : 48 ≤ c.toNat ∧ c.toNat ≤ 57
          · obtain ⟨x1, x2⟩ := h48
            have y1 : (48 : Int) ≤ (c.toNat : Int) := by omega
            have y2 : (c.toNat : Int) ≤ 57 := by omega
            have HG : Hid (digR c = c.toNat - 48) := by show _ = _; unfold digR; repeat (first | rw [if_pos (by omega)] | rw [if_neg (by omega)])
            have hdd : ((c.toNat - 48 : Nat) : Int) = (c.toNat : Int) - 48 := by omega
            by_cases hb1 : 10 ≤ c.toNat - 48
            · have HN : Hid (o = none) := by
                show _ = _
                rw [HO.out, HD.out]
                unfold rparsU
                rw [HG.out, if_pos (.inl hb1)]
                all_goals rfl
              have hb1i : (10 : Int) ≤ (c.toNat : Int) - 48 := by omega
              clear HG HD hdd
              go_wp2_with fail
              all_goals go_ret2
              all_goals exact ⟨ret_opt (by rw [HN.out]; rfl) (by rw [HN.out]; rfl), HBw.out⟩
            have hb1i : ¬ ((10 : Int) ≤ (c.toNat : Int) - 48) := by omega
            obtain ⟨q, hq, hwq, hqi, hgo⟩ := num_step 10 (by decide) (c.toNat - 48) (by omega) acc
            rw [hdd, show ((10 : Nat) : Int) = 10 from rfl] at hqi hgo
            by_cases hb2 : q < acc
            · have HN : Hid (o = none) := by
                show _ = _
                rw [HO.out, HD.out]
                unfold rparsU
                rw [HG.out, if_pos (.inr (by rw [← hq]; exact hb2))]
                all_goals rfl
              have hb2i : (q : Int) < (acc : Int) := Int.ofNat_lt.2 hb2
              clear HG HD hq hgo hdd
              go_wp2_with fail
              all_goals go_ret2
              all_goals exact ⟨ret_opt (by rw [HN.out]; rfl) (by rw [HN.out]; rfl), HBw.out⟩
            · obtain ⟨hN, hle, hle0, hge, hnew⟩ := hgo hb2
              have HN : Hid (10 * acc + (c.toNat - 48) ≤ 9223372036854775807 ∧ rparsU 10 0 bs = rparsU 10 (10 * acc + (c.toNat - 48)) (bs.drop (k + 1))) := by
                refine ⟨hN, ?_⟩
                rw [HD.out]
                conv => lhs; unfold rparsU
                rw [HG.out, if_neg (fun h => h.elim hb1 (fun h => hb2 (by rw [hq]; exact h)))]
              have hb2i : ¬ ((q : Int) < (acc : Int)) := fun h => hb2 (Int.ofNat_lt.1 h)
              have HE := hid hnew
              clear HG HD hq hgo hdd hN hnew
              go_wp2_with fail
              exact ⟨⟨k + 1, 10 * acc + (c.toNat - 48), congrArg (Value.int .i64) HE.out, by go_num, by omega, HN.out⟩, by simp [intOf]; omega⟩
          by_cases h97 : 97 ≤ c.toNat ∧ c.toNat ≤ 102
          · obtain ⟨x1, x2⟩ := h97
            have y1 : (97 : Int) ≤ (c.toNat : Int) := by omega
            have y2 : (c.toNat : Int) ≤ 102 := by omega
            have HG : Hid (digR c = c.toNat - 97 + 10) := by show _ = _; unfold digR; repeat (first | rw [if_pos (by omega)] | rw [if_neg (by omega)])
            have hdd : ((c.toNat - 97 + 10 : Nat) : Int) = (c.toNat : Int) - 97 + 10 := by omega
            by_cases hb1 : 10 ≤ c.toNat - 97 + 10
            · have HN : Hid (o = none) := by
                show _ = _
                rw [HO.out, HD.out]
                unfold rparsU
                rw [HG.out, if_pos (.inl hb1)]
                all_goals rfl
              have hb1i : (10 : Int) ≤ (c.toNat : Int) - 97 + 10 := by omega
              clear HG HD hdd
              go_wp2_with fail
              all_goals go_ret2
              all_goals exact ⟨ret_opt (by rw [HN.out]; rfl) (by rw [HN.out]; rfl), HBw.out⟩
            exact absurd (by omega) hb1
          by_cases h65 : 65 ≤ c.toNat ∧ c.toNat ≤ 70
          · obtain ⟨x1, x2⟩ := h65
            have y1 : (65 : Int) ≤ (c.toNat : Int) := by omega
            have y2 : (c.toNat : Int) ≤ 70 := by omega
            have HG : Hid (digR c = c.toNat - 65 + 10) := by show _ = _; unfold digR; repeat (first | rw [if_pos (by omega)] | rw [if_neg (by omega)])
            have hdd : ((c.toNat - 65 + 10 : Nat) : Int) = (c.toNat : Int) - 65 + 10 := by omega
            by_cases hb1 : 10 ≤ c.toNat - 65 + 10
            · have HN : Hid (o = none) := by
                show _ = _
                rw [HO.out, HD.out]
                unfold rparsU
                rw [HG.out, if_pos (.inl hb1)]
                all_goals rfl
              have hb1i : (10 : Int) ≤ (c.toNat : Int) - 65 + 10 := by omega
              clear HG HD hdd
              go_wp2_with fail
              all_goals go_ret2
              all_goals exact ⟨ret_opt (by rw [HN.out]; rfl) (by rw [HN.out]; rfl), HBw.out⟩
            exact absurd (by omega) hb1
          have HN : Hid (o = none) := by
            show _ = _
            rw [HO.out, HD.out]
            unfold rparsU
            have hg : digR c = 99 := by unfold digR; rw [if_neg h48, if_neg h97, if_neg h65]
            rw [hg, if_pos (.inl (by omega))]
            all_goals rfl
          have g1 : ¬ ((48 : Int) ≤ (c.toNat : Int) ∧ (c.toNat : Int) ≤ 57) := by omega
          have g2 : ¬ ((97 : Int) ≤ (c.toNat : Int) ∧ (c.toNat : Int) ≤ 102) := by omega
          have g3 : ¬ ((65 : Int) ≤ (c.toNat : Int) ∧ (c.toNat : Int) ≤ 70) := by omega
          clear HD
          go_wp2_with fail
          all_goals first | (exfalso; omega) | (go_ret2; exact ⟨ret_opt (by rw [HN.out]; rfl) (by rw [HN.out]; rfl), HBw.out⟩)
        · obtain rfl : k = t.size := by omega
          have HN : Hid (o = some (acc : Int)) := by
            show _ = _
            rw [HO.out, hdec, List.drop_of_length_le (by omega)]
            all_goals rfl
          have hup : (0 : Int) < (t.size : Int) := by omega
          clear hdec
          go_wp2_with fail
          go_ret2
          exact ⟨ret_opt (by rw [HN.out]; rfl) (by rw [HN.out]; first | rfl | (simp; done) | (simp; omega)), HBw.out⟩

set_option maxRecDepth 100000 in
set_option maxHeartbeats 2000000 in
theorem RNum_C3 (s : ByteArray) (hs : s.size ≠ 0) (hm : s.size ≤ 1048576) (C : List UInt8) (hcs : cutL s.data.toList = C) (hC : 1 = C.length) (w : World) : Calls Tryd.prog 8 #[.string s] w fun e w' => e = .returned (optV (numL s.data.toList)) ∧ Below w.heap.size w w' := by
  have hne : s.data.toList ≠ [] := fun e => hs (by rw [← size_data, e]; rfl)
  have HS := hid (num_same s.data.toList hne)
  rw [hcs] at HS
  generalize numL s.data.toList = o at HS ⊢
  have HH := hid hC
  clear hC
  go_enter Tryd.func8, Tryd.ntmps8
  go_wp2_with fail
  go_loop [0] (fun x => ∃ t : ByteArray, x = .string t ∧ t.size ≠ 0 ∧ t.size ≤ 1048576 ∧ Hid (C = cutL t.data.toList)) (fun x => szOf x)
  case atStart => exact ⟨s, rfl, hs, hm, hcs.symm⟩
  case round =>
    obtain ⟨t, rfl, ht0, htm, HC⟩ := hrel
    obtain ⟨N, hN⟩ : ∃ N, t.size = N + 1 := ⟨t.size - 1, by omega⟩
    have hlt : N < t.size := by omega
    have hwn : IntKind.i64.wrap ((t.size : Int) - 1) = (N : Int) := by rw [IntKind.wrap_i64]; omega
    have hN0 : (0 : Int) ≤ (N : Int) := by omega
    have hNt : (N : Int) < (t.size : Int) := by omega
    have hNt2 : (N : Int) ≤ (t.size : Int) := by omega
    have htl := tail_iff (t[N])
    by_cases hmore : 0 < N ∧ isTail (t[N]) = true
    · have HC2 : Hid (C = cutL (t.extract 0 N).data.toList) := by
        show _ = _
        rw [HC.out]
        exact cut_more t N hN hmore.1 hmore.2
      rw [hmore.2] at htl
      have hn1 : (1 : Int) < (t.size : Int) := by omega
      have hsz : (t.extract 0 N).size = N := by rw [ByteArray.size_extract]; omega
      simp only [Bool.true_eq, Bool.or_eq_true, beq_iff_eq] at htl
      have hN1 := hmore.1
      clear HC hmore hN
      rcases htl with ((h | h) | h) | h
      all_goals go_wp2_with fail
      all_goals exact ⟨⟨_, rfl, by omega, by omega, HC2.out⟩, by simp only [szOf]; omega⟩
    · have HT : Hid (C = t.data.toList) := by
        show _ = _
        rw [HC.out]
        exact cut_end t N hN (by
          rcases Nat.eq_zero_or_pos N with h | h
          · exact .inl h
          · exact .inr (by cases hx : isTail (t[N]) with | false => rfl | true => exact absurd ⟨h, hx⟩ hmore))
      have h0s : 0 < t.size := by omega
      have hlen : C.length = t.size := by rw [HT.out, size_data]
      have hC := HH.out
      rw [hlen] at hC
      have hU : 0 < t.size := h0s
      have h1i : ¬ ((1 : Int) < (t.size : Int)) := by omega
      have h2i : ¬ ((2 : Int) < (t.size : Int)) := by omega
      clear htl hmore hwn hN0 hNt hNt2 hlt hN
      have HO : Hid (o = Option.map (fun n : Nat => (n : Int)) (rparsU 10 0 (t).data.toList)) := by
        show _ = _
        rw [HS.out (by rw [HT.out]; intro e; rw [← size_data, e] at h0s; simp at h0s), ← HT.out]
        unfold rnumL
        rw [if_neg (fun h => by have := h.1; rw [hlen] at this; omega), if_neg (fun h => by have := h.1; rw [hlen] at this; omega)]
      clear HH HS hC HC hlen
      have hB : ∀ j, j < (t).size → (Lib.bytesWorld w 5 (t)).cell? ⟨w.heap.size, j, none⟩ = some (.int .u8 ((t).data.toList.getD j 0).toNat) := fun j hj => conv_cell0 w 5 (t) j hj
      have hcv := Lib.run_convert_string_bytes (P := Tryd.prog) w 9 65 5 (t) (u := .string) Tryd.underlying9 Tryd.underlying65 Tryd.underlying5
      have HBw : Hid (Below w.heap.size w (Lib.bytesWorld w 5 (t))) := conv_below0 w _ _
      have hLn : (t).data.toList.length = (t).size := size_data _
      generalize hW1 : Lib.bytesWorld w 5 (t) = W1 at hB hcv HBw
      clear hW1
      generalize (t).data.toList = bs at hB hLn HO
      go_wp2_with fail
      clear h1i h2i
      go_loop [6, 70] (fun vn vi => ∃ k acc : Nat, vn = .int .i64 (acc : Int) ∧ vi = .int .i64 (k : Int) ∧ k ≤ t.size ∧ Hid (acc ≤ 9223372036854775807 ∧ rparsU 10 0 bs = rparsU 10 acc (bs.drop k))) (fun _ vi => t.size - (intOf vi).toNat)
      case atStart => exact ⟨0, 0, rfl, rfl, Nat.zero_le _, by omega, rfl⟩
      case round =>
        obtain ⟨k, acc, rfl, rfl, hk, hh⟩ := hrel
        obtain ⟨hacc, hdec⟩ := hh.out
        clear hh
        by_cases hkn : k < t.size
        · have hc := hB k hkn
          have hdrop : bs.drop k = bs[k]'(by omega) :: bs.drop (k + 1) := List.drop_eq_getElem_cons (by omega)
          have hget : bs.getD k 0 = bs[k]'(by omega) := by simp [List.getD, List.getElem?_eq_getElem (show k < bs.length by omega)]
          rw [hdrop] at hdec
          rw [hget] at hc
          obtain ⟨c, hcd⟩ : ∃ c, bs[k]'(by omega) = c := ⟨_, rfl⟩
          rw [hcd] at hc hdec
          clear hcd hB
          have HD := hid hdec
          have hki : (k : Int) < (t.size : Int) := by omega
          have hk0 : (0 : Int) ≤ (k : Int) := by omega
          have ha0 : (0 : Int) ≤ (acc : Int) := by omega
          have hai : (acc : Int) ≤ 9223372036854775807 := by omega
          clear hdec hdrop hget
          by_cases h48 : 48 ≤ c.toNat ∧ c.toNat ≤ 57
          · obtain ⟨x1, x2⟩ := h48
            have y1 : (48 : Int) ≤ (c.toNat : Int) := by omega
            have y2 : (c.toNat : Int) ≤ 57 := by omega
            have HG : Hid (digR c = c.toNat - 48) := by show _ = _; unfold digR; repeat (first | rw [if_pos (by omega)] | rw [if_neg (by omega)])
            have hdd : ((c.toNat - 48 : Nat) : Int) = (c.toNat : Int) - 48 := by omega
            by_cases hb1 : 10 ≤ c.toNat - 48
            · have HN : Hid (o = none) := by
                show _ = _
                rw [HO.out, HD.out]
                unfold rparsU
                rw [HG.out, if_pos (.inl hb1)]
                all_goals rfl
              have hb1i : (10 : Int) ≤ (c.toNat : Int) - 48 := by omega
              clear HG HD hdd
              go_wp2_with fail
              all_goals go_ret2
              all_goals exact ⟨ret_opt (by rw [HN.out]; rfl) (by rw [HN.out]; rfl), HBw.out⟩
            have hb1i : ¬ ((10 : Int) ≤ (c.toNat : Int) - 48) := by omega
            obtain ⟨q, hq, hwq, hqi, hgo⟩ := num_step 10 (by decide) (c.toNat - 48) (by omega) acc
            rw [hdd, show ((10 : Nat) : Int) = 10 from rfl] at hqi hgo
            by_cases hb2 : q < acc
            · have HN : Hid (o = none) := by
                show _ = _
                rw [HO.out, HD.out]
                unfold rparsU
                rw [HG.out, if_pos (.inr (by rw [← hq]; exact hb2))]
                all_goals rfl
              have hb2i : (q : Int) < (acc : Int) := Int.ofNat_lt.2 hb2
              clear HG HD hq hgo hdd
              go_wp2_with fail
              all_goals go_ret2
              all_goals exact ⟨ret_opt (by rw [HN.out]; rfl) (by rw [HN.out]; rfl), HBw.out⟩
            · obtain ⟨hN, hle, hle0, hge, hnew⟩ := hgo hb2
              have HN : Hid (10 * acc + (c.toNat - 48) ≤ 9223372036854775807 ∧ rparsU 10 0 bs = rparsU 10 (10 * acc + (c.toNat - 48)) (bs.drop (k + 1))) := by
                refine ⟨hN, ?_⟩
                rw [HD.out]
                conv => lhs; unfold rparsU
                rw [HG.out, if_neg (fun h => h.elim hb1 (fun h => hb2 (by rw [hq]; exact h)))]
              have hb2i : ¬ ((q : Int) < (acc : Int)) := fun h => hb2 (Int.ofNat_lt.1 h)
              have HE := hid hnew
              clear HG HD hq hgo hdd hN hnew
              go_wp2_with fail
              exact ⟨⟨k + 1, 10 * acc + (c.toNat - 48), congrArg (Value.int .i64) HE.out, by go_num, by omega, HN.out⟩, by simp [intOf]; omega⟩
          by_cases h97 : 97 ≤ c.toNat ∧ c.toNat ≤ 102
          · obtain ⟨x1, x2⟩ := h97
            have y1 : (97 : Int) ≤ (c.toNat : Int) := by omega
            have y2 : (c.toNat : Int) ≤ 102 := by omega
            have HG : Hid (digR c = c.toNat - 97 + 10) := by show _ = _; unfold digR; repeat (first | rw [if_pos (by omega)] | rw [if_neg (by omega)])
            have hdd : ((c.toNat - 97 + 10 : Nat) : Int) = (c.toNat : Int) - 97 + 10 := by omega
            by_cases hb1 : 10 ≤ c.toNat - 97 + 10
            · have HN : Hid (o = none) := by
                show _ = _
                rw [HO.out, HD.out]
                unfold rparsU
                rw [HG.out, if_pos (.inl hb1)]
                all_goals rfl
              have hb1i : (10 : Int) ≤ (c.toNat : Int) - 97 + 10 := by omega
              clear HG HD hdd
              go_wp2_with fail
              all_goals go_ret2
              all_goals exact ⟨ret_opt (by rw [HN.out]; rfl) (by rw [HN.out]; rfl), HBw.out⟩
            exact absurd (by omega) hb1
          by_cases h65 : 65 ≤ c.toNat ∧ c.toNat ≤ 70
          · obtain ⟨x1, x2⟩ := h65
            have y1 : (65 : Int) ≤ (c.toNat : Int) := by omega
            have y2 : (c.toNat : Int) ≤ 70 := by omega
            have HG : Hid (digR c = c.toNat - 65 + 10) := by show _ = _; unfold digR; repeat (first | rw [if_pos (by omega)] | rw [if_neg (by omega)])
            have hdd : ((c.toNat - 65 + 10 : Nat) : Int) = (c.toNat : Int) - 65 + 10 := by omega
            by_cases hb1 : 10 ≤ c.toNat - 65 + 10
            · have HN : Hid (o = none) := by
                show _ = _
                rw [HO.out, HD.out]
                unfold rparsU
                rw [HG.out, if_pos (.inl hb1)]
                all_goals rfl
              have hb1i : (10 : Int) ≤ (c.toNat : Int) - 65 + 10 := by omega
              clear HG HD hdd
              go_wp2_with fail
              all_goals go_ret2
              all_goals exact ⟨ret_opt (by rw [HN.out]; rfl) (by rw [HN.out]; rfl), HBw.out⟩
            exact absurd (by omega) hb1
          have HN : Hid (o = none) := by
            show _ = _
            rw [HO.out, HD.out]
            unfold rparsU
            have hg : digR c = 99 := by unfold digR; rw [if_neg h48, if_neg h97, if_neg h65]
            rw [hg, if_pos (.inl (by omega))]
            all_goals rfl
          have g1 : ¬ ((48 : Int) ≤ (c.toNat : Int) ∧ (c.toNat : Int) ≤ 57) := by omega
          have g2 : ¬ ((97 : Int) ≤ (c.toNat : Int) ∧ (c.toNat : Int) ≤ 102) := by omega
          have g3 : ¬ ((65 : Int) ≤ (c.toNat : Int) ∧ (c.toNat : Int) ≤ 70) := by omega
          clear HD
          go_wp2_with fail
          all_goals first | (exfalso; omega) | (go_ret2; exact ⟨ret_opt (by rw [HN.out]; rfl) (by rw [HN.out]; rfl), HBw.out⟩)
        · obtain rfl : k = t.size := by omega
          have HN : Hid (o = some (acc : Int)) := by
            show _ = _
            rw [HO.out, hdec, List.drop_of_length_le (by omega)]
            all_goals rfl
          have hup : (0 : Int) < (t.size : Int) := by omega
          clear hdec
          go_wp2_with fail
          go_ret2
          exact ⟨ret_opt (by rw [HN.out]; rfl) (by rw [HN.out]; first | rfl | (simp; done) | (simp; omega)), HBw.out⟩

end Go.Proofs.YtienjifhkmekcaaDoor
namespace Go.Proofs.YtienjifhkmekcaaDoor
open Go.RowKit Go.Shelf

/-- Something is left of a number's text. -/
theorem cut_ne : ∀ (n : Nat) (l : List UInt8), l.length = n + 1 → 0 < (cutL l).length
  | 0, l, h => by rw [cut_one l (by omega)]; omega
  | n + 1, l, h => by
    have hne : l ≠ [] := by intro e; rw [e] at h; simp at h
    obtain ⟨m, c, rfl⟩ : ∃ m c, l = m ++ [c] := ⟨l.dropLast, l.getLast hne, (List.dropLast_concat_getLast hne).symm⟩
    have hm : m.length = n + 1 := by simpa using h
    have hm' : m ≠ [] := by intro e; rw [e] at hm; simp at hm
    cases ht : isTail c with
    | true => rw [cut_step m c hm' ht]; exact cut_ne n m hm
    | false => rw [cut_stay m c hm' ht]; simp

/-- The document's own Num answers what numL says. -/
theorem RNum_wide (s : ByteArray) (hs : s.size ≠ 0) (hm : s.size ≤ 1048576) (w : World) : Calls Tryd.prog 8 #[.string s] w fun e w' => e = .returned (optV (numL s.data.toList)) ∧ Below w.heap.size w w' := by
  obtain ⟨C, hcs⟩ : ∃ C, cutL s.data.toList = C := ⟨_, rfl⟩
  have h0 : 0 < C.length := by
    rw [← hcs]
    exact cut_ne (s.size - 1) _ (by rw [size_data]; omega)
  by_cases h1 : 1 = C.length
  · exact RNum_C3 s hs hm C hcs h1 w
  by_cases hz : byteAt C 0 = 48
  · by_cases h2 : 2 = C.length
    · exact RNum_B2 s hs hm C hcs ⟨h2, hz⟩ w
    · have h3 : 2 < C.length := by omega
      by_cases hx : byteAt C 1 = 120
      · exact RNum_A1 s hs hm C hcs ⟨h3, hz, hx⟩ w
      by_cases hX : byteAt C 1 = 88
      · exact RNum_A2 s hs hm C hcs ⟨h3, hz, hX⟩ w
      · exact RNum_B1 s hs hm C hcs ⟨h3, hz, fun h => h.elim hx hX⟩ w
  · by_cases h2 : 2 = C.length
    · exact RNum_C2 s hs hm C hcs ⟨h2, hz⟩ w
    · exact RNum_C1 s hs hm C hcs ⟨by omega, hz⟩ w
theorem RNum_any : RNumC := fun s hs hm w => RNum_wide s hs (Nat.le_trans hm (by decide)) w

end Go.Proofs.YtienjifhkmekcaaDoor
