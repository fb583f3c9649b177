/- Some texts in one. -/
import Derived.Test.YtienjifhkmekcaaDoorLxTokens
import Derived.Test.YtienjifhkmekcaaDoorCmD
import Derived.Test.YtienjifhkmekcaaDoorLxRef
import Derived.Test.YtienjifhkmekcaaDoorCnA
import Derived.Test.YtienjifhkmekcaaDoorCnB
import Derived.Test.YtienjifhkmekcaaDoorCnC
namespace Go.Proofs.YtienjifhkmekcaaDoor
open Go.RowKit

theorem pcsF_few (s : List UInt8) : ∀ (f i : Nat) (acc A : List Pc), i ≤ s.length → pcsF s f i acc = .inr A → ∃ qs, A = acc ++ qs ∧ qs.length ≤ s.length - i
  | 0, _, acc, A, _, h => by cases h; exact ⟨[], by simp, by simp⟩
  | f + 1, i, acc, A, hi, h => by
    have hs := skip_to s i false (i == 0) hi
    unfold pcsF at h
    generalize skip s i false (i == 0) = g at h hs
    obtain ⟨k, sp, fi, lk⟩ := g
    dsimp only at h hs
    split at h
    · cases h
    · split at h
      · cases h; exact ⟨[], by simp, by simp⟩
      · rename_i hk
        split at h
        · cases h
        · rename_i hm
          have hle := pick_le (s.drop k) (!fi && behind s acc) (by simp; omega)
          have hl : (s.drop k).length = s.length - k := by simp
          have hn : k + (pick (sizes (s.drop k) (!fi && behind s acc))).2.toNat ≤ s.length ∧ 0 < (pick (sizes (s.drop k) (!fi && behind s acc))).2.toNat := by
            rcases hle with h' | ⟨h1, h2⟩
            · exact absurd h' hm
            · omega
          obtain ⟨qs, q1, q2⟩ := pcsF_few s f _ _ A hn.1 h
          exact ⟨_ :: qs, by rw [q1, List.append_assoc]; rfl, by rw [List.length_cons]; omega⟩

/-- Tokens are few, and their texts short. -/
theorem toks_small (file : Int) (l : List UInt8) : (toksF file l).1.length ≤ 3000 ∧ ∀ t ∈ (toksF file l).1, t.text.size ≤ 3000 := by
  have hk : (bytesAt l (kept l)).length ≤ l.length := by rw [bytesAt_length]; exact (went_kept l).few
  unfold toksF
  split
  · exact ⟨by simp, fun t ht => by cases ht⟩
  · rename_i h3
    rcases hp : pcs (bytesAt l (kept l)) with k | ps
    · exact ⟨by simp, fun t ht => by cases ht⟩
    · dsimp only
      obtain ⟨qs, q1, q2⟩ := pcsF_few _ _ 0 [] ps (Nat.zero_le _) hp
      rw [List.nil_append] at q1
      refine ⟨by rw [tksOf_length, q1]; omega, fun t ht => ?_⟩
      unfold tksOf at ht
      obtain ⟨p, _, rfl⟩ := List.mem_map.1 ht
      show (textOfPc (bytesAt l (kept l)) p).toArray.size ≤ 3000
      rw [List.size_toArray]
      unfold textOfPc
      rw [List.length_drop, List.length_take]
      omega
end Go.Proofs.YtienjifhkmekcaaDoor
namespace Go.Proofs.YtienjifhkmekcaaDoor
open Go.RowKit

theorem pcsF_full (s : List UInt8) : ∀ (f i : Nat) (acc A : List Pc), i ≤ s.length → (∀ p ∈ acc, p.lo < p.hi ∧ p.hi ≤ s.length) → pcsF s f i acc = .inr A → ∀ p ∈ A, p.lo < p.hi ∧ p.hi ≤ s.length
  | 0, _, acc, A, _, ha, h => by cases h; exact ha
  | f + 1, i, acc, A, hi, ha, h => by
    have hs := skip_to s i false (i == 0) hi
    unfold pcsF at h
    generalize skip s i false (i == 0) = g at h hs
    obtain ⟨k, sp, fi, lk⟩ := g
    dsimp only at h hs
    split at h
    · cases h
    · split at h
      · cases h; exact ha
      · rename_i hk
        split at h
        · cases h
        · rename_i hm
          have hle := pick_le (s.drop k) (!fi && behind s acc) (by simp; omega)
          have hl : (s.drop k).length = s.length - k := by simp
          have hn : k + (pick (sizes (s.drop k) (!fi && behind s acc))).2.toNat ≤ s.length ∧ 0 < (pick (sizes (s.drop k) (!fi && behind s acc))).2.toNat := by
            rcases hle with h' | ⟨h1, h2⟩
            · exact absurd h' hm
            · omega
          refine pcsF_full s f _ _ A hn.1 (fun p hp => ?_) h
          rcases List.mem_append.1 hp with hp | hp
          · exact ha p hp
          · rw [List.mem_singleton] at hp
            subst hp
            dsimp only
            omega
/-- No token is empty. -/
theorem toks_full (file : Int) (l : List UInt8) : ∀ t ∈ (toksF file l).1, t.text.size ≠ 0 := by
  unfold toksF
  split
  · exact fun t ht => by cases ht
  · rcases hp : pcs (bytesAt l (kept l)) with k | ps
    · exact fun t ht => by cases ht
    · dsimp only
      have hf := pcsF_full _ _ 0 [] ps (Nat.zero_le _) (fun p hp => by cases hp) hp
      intro t ht
      unfold tksOf at ht
      obtain ⟨p, hpm, rfl⟩ := List.mem_map.1 ht
      show (textOfPc (bytesAt l (kept l)) p).toArray.size ≠ 0
      rw [List.size_toArray]
      unfold textOfPc
      have := hf p hpm
      rw [List.length_drop, List.length_take]
      omega
end Go.Proofs.YtienjifhkmekcaaDoor
namespace Go.Proofs.YtienjifhkmekcaaDoor
open Go.RowKit Go.Shelf

/-- The document's own Tokens, as RxTokens proves it. -/
def RTokC : Prop := ∀ (file : Int) (s : ByteArray) (w : World), Calls Tryd.prog 4 #[.int .i64 file, .string s] w (TokPost file s.data.toList w)
/-- The document's own Eval, as CrREval proves it. -/
def REvalC : Prop := ∀ (a : Option Addr) (c : Nat) (ts : List Tk) (w : World), TAt w a ts → ts.length ≤ 3000 → Texts ts →
    Calls Tryd.prog 6 #[.slice a ts.length c] w fun e w' => e = .returned (.tuple #[.int .i64 (evalL numL ts).1, .agg #[.int .i64 (evalL numL ts).2.1, .int .i64 (evalL numL ts).2.2.1, .int .i64 (evalL numL ts).2.2.2]]) ∧ Below w.heap.size w w'
/-- The document's own Num, as CrNumAll proves it. -/
def RNumW : Prop := ∀ (s : ByteArray), s.size ≠ 0 → s.size ≤ 1048576 → ∀ w : World, Calls Tryd.prog 8 #[.string s] w fun e w' => e = .returned (optV (numL s.data.toList)) ∧ Below w.heap.size w w'

theorem optV_is (o : Option Int) : ∃ v b, optV o = .tuple #[.int .i64 v, .bool b] := by
  cases o with
  | none => exact ⟨0, false, rfl⟩
  | some v => exact ⟨v, true, rfl⟩
set_option maxRecDepth 100000 in
theorem rnum_none (w : World) : Calls Tryd.prog 8 #[.string ⟨#[]⟩] w fun e w' => (∃ v b, e = .returned (.tuple #[.int .i64 v, .bool b])) ∧ Below w.heap.size w w' := by
  have hcv := Lib.run_convert_string_bytes (P := Tryd.prog) w 9 65 5 ⟨#[]⟩ (u := .string) Tryd.underlying9 Tryd.underlying65 Tryd.underlying5
  have HBw : Hid (Below w.heap.size w (Lib.bytesWorld w 5 ⟨#[]⟩)) := conv_below0 w _ _
  generalize Lib.bytesWorld w 5 ⟨#[]⟩ = w1 at hcv HBw
  go_enter Tryd.func8, Tryd.ntmps8
  go_wp2_with fail
  refine wp_loop_rounds 1 ?_
  rw [rounds_succ]
  go_wp2_with fail
  refine wp_loop_rounds 1 ?_
  rw [rounds_succ]
  go_wp2_with fail
  go_ret2
  exact ⟨⟨_, _, rfl⟩, HBw.out⟩

set_option maxRecDepth 100000 in
set_option maxHeartbeats 2000000 in
theorem Tells_walk (HR : RTokC) (HX : REvalC) (HN : RNumW) (s t : ByteArray) (ht : t.size ≤ 1048576) (w : World) (hE : Ev w) :
    Calls Tryd.prog 3 #[.string s, .string t] w fun e w' => e = .returned (.bool true) ∧ Below w.heap.size w w' := by
  have HT := hid (HR 0 s w)
  unfold TokPost faultV at HT
  have HE := hid hE
  have HS := hid (toks_small 0 s.data.toList)
  have HF := hid (toks_full 0 s.data.toList)
  generalize (toksF 0 s.data.toList).1 = ts at HT HS HF
  generalize (toksF 0 s.data.toList).2 = F at HT
  obtain ⟨f0, f1, f2⟩ := F
  dsimp only at HT
  have HNP := hid (fun W (hW : Below w.heap.size w W) => Num_any t W (HE.out.below hW) ht)
  have HCP := hid (fun W => Char_any t W)
  have HCR := hid (fun W => RChar_any t W)
  have HNR : Hid (∀ W, Calls Tryd.prog 8 #[.string t] W fun e w' => (∃ v b, e = .returned (.tuple #[.int .i64 v, .bool b]) ∧ (t.size ≠ 0 → optV (numL t.data.toList) = .tuple #[.int .i64 v, .bool b])) ∧ Below W.heap.size W w') := fun W => by
    by_cases h0 : t.size = 0
    · have ht0 : t = ⟨#[]⟩ := by
        apply ByteArray.ext
        exact Array.eq_empty_of_size_eq_zero h0
      subst ht0
      refine (rnum_none W).mono ?_
      rintro e w' ⟨⟨v, b, rfl⟩, hb⟩
      exact ⟨⟨v, b, rfl, fun h => absurd rfl h⟩, hb⟩
    · refine (HN t h0 ht W).mono ?_
      rintro e w' ⟨rfl, hb⟩
      obtain ⟨v, b, h⟩ := optV_is (numL t.data.toList)
      exact ⟨⟨v, b, by rw [h], fun _ => h⟩, hb⟩
  obtain ⟨cv, cb, hcc⟩ := optV_is (charL t.data.toList)
  rw [hcc] at HCP HCR
  obtain ⟨nv, nb, hnn⟩ := optV_is (numL t.data.toList)
  rw [hnn] at HNP HNR
  clear hcc hnn hE HR HN ht
  go_enter Tryd.func3, Tryd.ntmps3
  go_wp2_with fail
  refine HT.out.mono ?_
  rintro e w1 ⟨a, c, rfl, hT, hb1, hcap⟩
  have HN1 := hid ((Below.refl _ w1).alloc (Nat.le_refl _) (.cells #[.int .i64 f0, .int .i64 f1, .int .i64 f2] 25))
  have HB1 := hid hb1
  have HT1 := hid hT
  clear HT hcap hb1 hT
  by_cases hf : f0 = 0
  · subst hf
    have HB2 := hid (HB1.out.trans (HN1.out.mono HB1.out.size))
    have HT2 := hid (HT1.out.below HN1.out)
    have HXE := hid (fun W (hW : Below w.heap.size w W) (hTW : TAt W a ts) => Eval_whole a c ts W hTW (HE.out.below hW) HS.out.1 HS.out.2)
    have HXR := hid (fun W (hTW : TAt W a ts) => HX a c ts W hTW HS.out.1 (fun t ht => ⟨HF.out t ht, HS.out.2 t ht⟩))
    generalize evalL numL ts = E at HXE HXR
    obtain ⟨E0, E1, E2, E3⟩ := E
    dsimp only at HXE HXR
    clear HS HF HX
    go_wp2_with fail
    refine (HXE.out _ HB2.out HT2.out).mono ?_
    rintro e w2 ⟨rfl, hb2⟩
    have HN2 := hid ((Below.refl _ w2).alloc (Nat.le_refl _) (.cells #[.int .i64 E1, .int .i64 E2, .int .i64 E3] 25))
    have HF2 := hid (FBx.new w2 E1 E2 E3)
    have HB3 := hid ((HB2.out.trans (hb2.mono HB2.out.size)).trans (HN2.out.mono (HB2.out.trans (hb2.mono HB2.out.size)).size))
    have HT3 := hid ((HT2.out.below hb2).below HN2.out)
    clear hb2 HXE HT2 HB2
    go_wp2_with fail
    refine (HXR.out _ HT3.out).mono ?_
    rintro e w3 ⟨rfl, hb3⟩
    have HF3 := hid (HF2.out.below hb3)
    have HN3 := hid ((Below.refl _ w3).alloc (Nat.le_refl _) (.cells #[.int .i64 E1, .int .i64 E2, .int .i64 E3] 25))
    have HB4' := hid (HB3.out.trans (hb3.mono HB3.out.size))
    have HB4 := hid (HB4'.out.trans (HN3.out.mono HB4'.out.size))
    obtain ⟨b0, b1, b2, _⟩ := HF3.out.facts
    have hlt2 := lt_of_block HF3.out
    clear hb3 HXR HT3 HB3 HB4'
    go_wp2_with fail
    refine (HNP.out _ HB4.out).mono ?_
    rintro e w4 ⟨rfl, hb4⟩
    have HB5 := hid (HB4.out.trans (hb4.mono HB4.out.size))
    clear hb4 HB4 HNP
    go_wp2_with fail
    refine (HNR.out _).mono ?_
    rintro e w5 ⟨⟨v, b, rfl, hvb⟩, hb5⟩
    have HB6 := hid (HB5.out.trans (hb5.mono HB5.out.size))
    have HVB := hid hvb
    clear hb5 HB5 HNR hvb
    by_cases ht0 : t.size = 0
    · have ht1 : t = ⟨#[]⟩ := by
        apply ByteArray.ext
        exact Array.eq_empty_of_size_eq_zero ht0
      subst ht1
      clear ht0 HVB
      go_wp2_with fail
      refine (HCP.out _).mono ?_
      rintro e w6 ⟨rfl, hb6⟩
      have HB7 := hid (HB6.out.trans (hb6.mono HB6.out.size))
      clear hb6 HB6
      go_wp2_with fail
      refine (HCR.out _).mono ?_
      rintro e w7 ⟨rfl, hw7⟩
      subst w7
      have hcbb : (cb == cb) = true := by cases cb <;> rfl
      go_wp2_with fail
      go_ret
      exact ⟨rfl, HB7.out⟩
    · have hvv := HVB.out ht0
      simp only [Value.tuple.injEq, Array.mk.injEq, List.cons.injEq, Value.int.injEq, Value.bool.injEq, true_and, and_true] at hvv
      obtain ⟨e1, e2⟩ := hvv
      subst e1
      subst e2
      have hte : (t.toList == []) = false := by
        rw [beq_eq_false_iff_ne, toList_data]
        intro e
        apply ht0
        rw [← size_data, e]
        rfl
      have hnbb : (nb != nb) = false := by cases nb <;> rfl
      clear HVB ht0
      go_wp2_with fail
      refine (HCP.out _).mono ?_
      rintro e w6 ⟨rfl, hb6⟩
      have HB7 := hid (HB6.out.trans (hb6.mono HB6.out.size))
      clear hb6 HB6
      go_wp2_with fail
      refine (HCR.out _).mono ?_
      rintro e w7 ⟨rfl, hw7⟩
      subst w7
      have hcbb : (cb == cb) = true := by cases cb <;> rfl
      go_wp2_with fail
      go_ret
      exact ⟨rfl, HB7.out⟩
  · have hfb : (f0 == 0) = false := by simpa using hf
    have HB4 := hid (HB1.out.trans (HN1.out.mono HB1.out.size))
    clear HS HF HX HT1 hf
    go_wp2_with fail
    refine (HNP.out _ HB4.out).mono ?_
    rintro e w4 ⟨rfl, hb4⟩
    have HB5 := hid (HB4.out.trans (hb4.mono HB4.out.size))
    clear hb4 HB4 HNP
    go_wp2_with fail
    refine (HNR.out _).mono ?_
    rintro e w5 ⟨⟨v, b, rfl, hvb⟩, hb5⟩
    have HB6 := hid (HB5.out.trans (hb5.mono HB5.out.size))
    have HVB := hid hvb
    clear hb5 HB5 HNR hvb
    by_cases ht0 : t.size = 0
    · have ht1 : t = ⟨#[]⟩ := by
        apply ByteArray.ext
        exact Array.eq_empty_of_size_eq_zero ht0
      subst ht1
      clear ht0 HVB
      go_wp2_with fail
      refine (HCP.out _).mono ?_
      rintro e w6 ⟨rfl, hb6⟩
      have HB7 := hid (HB6.out.trans (hb6.mono HB6.out.size))
      clear hb6 HB6
      go_wp2_with fail
      refine (HCR.out _).mono ?_
      rintro e w7 ⟨rfl, hw7⟩
      subst w7
      have hcbb : (cb == cb) = true := by cases cb <;> rfl
      go_wp2_with fail
      go_ret
      exact ⟨rfl, HB7.out⟩
    · have hvv := HVB.out ht0
      simp only [Value.tuple.injEq, Array.mk.injEq, List.cons.injEq, Value.int.injEq, Value.bool.injEq, true_and, and_true] at hvv
      obtain ⟨e1, e2⟩ := hvv
      subst e1
      subst e2
      have hte : (t.toList == []) = false := by
        rw [beq_eq_false_iff_ne, toList_data]
        intro e
        apply ht0
        rw [← size_data, e]
        rfl
      have hnbb : (nb != nb) = false := by cases nb <;> rfl
      clear HVB ht0
      go_wp2_with fail
      refine (HCP.out _).mono ?_
      rintro e w6 ⟨rfl, hb6⟩
      have HB7 := hid (HB6.out.trans (hb6.mono HB6.out.size))
      clear hb6 HB6
      go_wp2_with fail
      refine (HCR.out _).mono ?_
      rintro e w7 ⟨rfl, hw7⟩
      subst w7
      have hcbb : (cb == cb) = true := by cases cb <;> rfl
      go_wp2_with fail
      go_ret
      exact ⟨rfl, HB7.out⟩
end Go.Proofs.YtienjifhkmekcaaDoor
