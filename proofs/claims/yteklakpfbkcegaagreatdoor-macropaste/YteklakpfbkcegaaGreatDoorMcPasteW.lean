/- Walk of the statement that two tokens are one, or none. -/
import Derived.Test.YteklakpfbkcegaaGreatDoorMcPasteN
import Derived.Test.YteklakpfbkcegaaGreatDoorMcToks
namespace Go.Proofs.YteklakpfbkcegaaGreatDoor
open Go.RowKit Go.Shelf

theorem toks_ok {file : Int} {l : List UInt8} {t : Tk} {r : List Tk} (h : (toksF file l).1 = t :: r) : (toksF file l).2.1 = 0 := by
  by_cases h0 : (toksF file l).2.1 = 0
  · exact h0
  · rw [toks_err file l h0] at h
    cases h
theorem bytes_eq {a b : ByteArray} (h : a.data.toList = b.data.toList) : a = b := by
  cases a; cases b
  congr 1
  exact Array.ext' h
set_option maxRecDepth 100000 in
set_option maxHeartbeats 1000000 in
theorem Paste_walk (HR : RToks) (HL : McLive) (a b : ByteArray) (w : World) (hE : Env w) (hs : a.size + b.size ≤ 9223372036854775807) :
    Calls Tryz.prog 6 #[.string a, .string b] w fun e w' => e = .returned (.bool true) ∧ Below w.heap.size w w' := by
  have HV := hid (HL w hE)
  have HPs := hid (fun W (h : Below w.heap.size w W) => Paste_wide 0 a false false 0 0 0 0 none 0 0 0 0 b false false 0 0 0 0 none 0 0 none 0 0 0 W (hE.below h) hs)
  have HRT := hid (fun W => HR 0 (a ++ b) W)
  unfold TokPost faultV at HRT
  have hadd : ∀ W : World, (Op.stringOp .add a b).run Tryz.prog W = .ok (.string (a ++ b)) W := fun W => run_string_add_sum W a b (by omega)
  rw [show a.data.toList ++ b.data.toList = (a ++ b).data.toList by simp] at HPs
  generalize a ++ b = x at HPs HRT hadd
  have HOK := hid (fun t r => toks_ok (file := 0) (l := x.data.toList) (t := t) (r := r))
  have HPT : Hid (∀ l : List Tk, (toksF 0 x.data.toList).1 = l → pasteT x.data.toList = match l with | [t] => if t.text.data.toList == x.data.toList then some t else none | _ => none) := fun l h => by unfold pasteT; rw [h]; rcases l with _ | ⟨t, _ | ⟨u, r⟩⟩ <;> rfl
  generalize pasteT x.data.toList = pt at HPs HPT
  generalize (toksF 0 x.data.toList).1 = ts at HRT HOK HPT
  generalize (toksF 0 x.data.toList).2 = F at HRT HOK
  obtain ⟨f0, f1, f2⟩ := F
  clear hE HR HL hs
  rcases ts with _ | ⟨t, _ | ⟨u, r⟩⟩
  · have hp := HPT.out _ rfl
    dsimp only at hp
    subst hp
    dsimp only at HPs HRT
    dsimp only [List.length_nil] at HRT
    clear HPT HOK
    by_cases hf : f0 = 0
    · subst hf
      go_enter Tryz.func6, Tryz.ntmps6
      go_wp2_with fail
      refine HV.out.mono ?_
      rintro e w1 ⟨rfl, hb1⟩
      have HB1 := hid hb1
      clear hb1
      go_wp2_with fail
      refine (HPs.out _ HB1.out).mono ?_
      rintro e w2 ⟨rfl, hb2⟩
      have HB2 := hid (HB1.out.trans (hb2.mono HB1.out.size))
      have hbt := (Below.refl _ w2).alloc (Nat.le_refl _) (.cells #[.int .i64 0, .string ⟨#[]⟩, .bool false, .bool false, .int .i64 0, .int .i64 0, .int .i64 0, .int .i64 0, .slice none 0 0, .slice none 0 0, .int .i64 0] 43)
      have HK3 := hid (heap_alloc_new w2 (.cells #[.int .i64 0, .string ⟨#[]⟩, .bool false, .bool false, .int .i64 0, .int .i64 0, .int .i64 0, .int .i64 0, .slice none 0 0, .slice none 0 0, .int .i64 0] 43))
      have HB3 := hid (HB2.out.trans (hbt.mono HB2.out.size))
      clear hb2 hbt
      go_wp2_with fail
      generalize w2.alloc (.cells #[.int .i64 0, .string ⟨#[]⟩, .bool false, .bool false, .int .i64 0, .int .i64 0, .int .i64 0, .int .i64 0, .slice none 0 0, .slice none 0 0, .int .i64 0] 43) = w3 at HK3 HB3 ⊢
      generalize w2.heap.size = Bt at HK3 ⊢
      refine (HRT.out _).mono ?_
      rintro e w4 ⟨a4, c4, rfl, hT4, hb4, hcap4⟩
      have HB4 := hid (HB3.out.trans (hb4.mono HB3.out.size))
      have HK4 := hid ((hb4.block _ (lt_of_block HK3.out)).trans HK3.out)
      clear hT4
      have hbf := (Below.refl _ w4).alloc (Nat.le_refl _) (.cells #[.int .i64 0, .int .i64 f1, .int .i64 f2] 29)
      have HB5 := hid (HB4.out.trans (hbf.mono HB4.out.size))
      have HK5 := hid ((hbf.block _ (lt_of_block HK4.out)).trans HK4.out)
      clear hb4 hcap4 hbf
      go_wp2_with fail
      generalize w4.alloc (.cells #[.int .i64 0, .int .i64 f1, .int .i64 f2] 29) = w5 at HB5 HK5 ⊢
      have hnn : Nonempty (Later w5) := ⟨⟨_, Below.refl _ _⟩⟩
      refine region_later (by kernel_rfl) (by kernel_rfl) ?_
      repeat (first | go_big_quiet_step (fail) | quiet_step (fail))
      refine wpQuiet_nil ?_
      rintro _ ⟨p, rfl⟩
      have HB6 := hid (HB5.out.trans (p.hb.mono HB5.out.size))
      clear hnn
      generalize p.W = w6 at HB6 ⊢
      go_wp2_with fail
      go_ret
      exact ⟨rfl, HB6.out⟩
    · have hfb : (f0 == 0) = false := by simpa using hf
      go_enter Tryz.func6, Tryz.ntmps6
      go_wp2_with fail
      refine HV.out.mono ?_
      rintro e w1 ⟨rfl, hb1⟩
      have HB1 := hid hb1
      clear hb1
      go_wp2_with fail
      refine (HPs.out _ HB1.out).mono ?_
      rintro e w2 ⟨rfl, hb2⟩
      have HB2 := hid (HB1.out.trans (hb2.mono HB1.out.size))
      have hbt := (Below.refl _ w2).alloc (Nat.le_refl _) (.cells #[.int .i64 0, .string ⟨#[]⟩, .bool false, .bool false, .int .i64 0, .int .i64 0, .int .i64 0, .int .i64 0, .slice none 0 0, .slice none 0 0, .int .i64 0] 43)
      have HK3 := hid (heap_alloc_new w2 (.cells #[.int .i64 0, .string ⟨#[]⟩, .bool false, .bool false, .int .i64 0, .int .i64 0, .int .i64 0, .int .i64 0, .slice none 0 0, .slice none 0 0, .int .i64 0] 43))
      have HB3 := hid (HB2.out.trans (hbt.mono HB2.out.size))
      clear hb2 hbt
      go_wp2_with fail
      generalize w2.alloc (.cells #[.int .i64 0, .string ⟨#[]⟩, .bool false, .bool false, .int .i64 0, .int .i64 0, .int .i64 0, .int .i64 0, .slice none 0 0, .slice none 0 0, .int .i64 0] 43) = w3 at HK3 HB3 ⊢
      generalize w2.heap.size = Bt at HK3 ⊢
      refine (HRT.out _).mono ?_
      rintro e w4 ⟨a4, c4, rfl, hT4, hb4, hcap4⟩
      have HB4 := hid (HB3.out.trans (hb4.mono HB3.out.size))
      have HK4 := hid ((hb4.block _ (lt_of_block HK3.out)).trans HK3.out)
      clear hT4
      have hbf := (Below.refl _ w4).alloc (Nat.le_refl _) (.cells #[.int .i64 f0, .int .i64 f1, .int .i64 f2] 29)
      have HB5 := hid (HB4.out.trans (hbf.mono HB4.out.size))
      have HK5 := hid ((hbf.block _ (lt_of_block HK4.out)).trans HK4.out)
      clear hb4 hcap4 hbf
      go_wp2_with fail
      generalize w4.alloc (.cells #[.int .i64 f0, .int .i64 f1, .int .i64 f2] 29) = w5 at HB5 HK5 ⊢
      have hnn : Nonempty (Later w5) := ⟨⟨_, Below.refl _ _⟩⟩
      refine region_later (by kernel_rfl) (by kernel_rfl) ?_
      repeat (first | go_big_quiet_step (fail) | quiet_step (fail))
      refine wpQuiet_nil ?_
      rintro _ ⟨p, rfl⟩
      have HB6 := hid (HB5.out.trans (p.hb.mono HB5.out.size))
      clear hnn
      generalize p.W = w6 at HB6 ⊢
      go_wp2_with fail
      go_ret
      exact ⟨rfl, HB6.out⟩
  · have hf := HOK.out t [] rfl
    dsimp only at hf
    subst hf
    have hp := HPT.out _ rfl
    dsimp only at hp
    clear HPT HOK
    dsimp only [List.length_cons, List.length_nil] at HRT
    rcases hq : (t.text.data.toList == x.data.toList) with _ | _
    · rw [hq, if_neg (by decide)] at hp
      subst hp
      dsimp only at HPs
      have hne1 : (t.text.toList == x.toList) = false := by rw [toList_data, toList_data]; exact hq
      clear hq
      go_enter Tryz.func6, Tryz.ntmps6
      go_wp2_with fail
      refine HV.out.mono ?_
      rintro e w1 ⟨rfl, hb1⟩
      have HB1 := hid hb1
      clear hb1
      go_wp2_with fail
      refine (HPs.out _ HB1.out).mono ?_
      rintro e w2 ⟨rfl, hb2⟩
      have HB2 := hid (HB1.out.trans (hb2.mono HB1.out.size))
      have hbt := (Below.refl _ w2).alloc (Nat.le_refl _) (.cells #[.int .i64 0, .string ⟨#[]⟩, .bool false, .bool false, .int .i64 0, .int .i64 0, .int .i64 0, .int .i64 0, .slice none 0 0, .slice none 0 0, .int .i64 0] 43)
      have HK3 := hid (heap_alloc_new w2 (.cells #[.int .i64 0, .string ⟨#[]⟩, .bool false, .bool false, .int .i64 0, .int .i64 0, .int .i64 0, .int .i64 0, .slice none 0 0, .slice none 0 0, .int .i64 0] 43))
      have HB3 := hid (HB2.out.trans (hbt.mono HB2.out.size))
      clear hb2 hbt
      go_wp2_with fail
      generalize w2.alloc (.cells #[.int .i64 0, .string ⟨#[]⟩, .bool false, .bool false, .int .i64 0, .int .i64 0, .int .i64 0, .int .i64 0, .slice none 0 0, .slice none 0 0, .int .i64 0] 43) = w3 at HK3 HB3 ⊢
      generalize w2.heap.size = Bt at HK3 ⊢
      refine (HRT.out _).mono ?_
      rintro e w4 ⟨a4, c4, rfl, hT4, hb4, hcap4⟩
      have HB4 := hid (HB3.out.trans (hb4.mono HB3.out.size))
      have HK4 := hid ((hb4.block _ (lt_of_block HK3.out)).trans HK3.out)
      rcases hT4 with h0 | ⟨b0, off, rfl, hb0, hcx⟩
      · cases h0
      have hbf := (Below.refl _ w4).alloc (Nat.le_refl _) (.cells #[.int .i64 0, .int .i64 f1, .int .i64 f2] 29)
      have HB5 := hid (HB4.out.trans (hbf.mono HB4.out.size))
      have HK5 := hid ((hbf.block _ (lt_of_block HK4.out)).trans HK4.out)
      have e0 := (hbf.cell (p := ⟨b0, off + 0 * 11 + 0, none⟩) hb0).trans (hcx 0 t rfl 0 _ rfl)
      have e1 := (hbf.cell (p := ⟨b0, off + 0 * 11 + 1, none⟩) hb0).trans (hcx 0 t rfl 1 _ rfl)
      simp only [Nat.zero_mul, Nat.add_zero] at e0 e1
      have hlt0 : b0 < w4.heap.size := hb0
      clear hcx
      clear hb4 hcap4 hbf
      go_wp2_with fail
      generalize w4.alloc (.cells #[.int .i64 0, .int .i64 f1, .int .i64 f2] 29) = w5 at HB5 HK5 e0 e1 ⊢
      have E0 := Later.cell e0
      have E1 := Later.cell e1
      clear e0 e1
      have hnn : Nonempty (Later w5) := ⟨⟨_, Below.refl _ _⟩⟩
      refine region_later (by kernel_rfl) (by kernel_rfl) ?_
      repeat (first | go_big_quiet_step (fail) | quiet_step (fail))
      refine wpQuiet_nil ?_
      rintro _ ⟨p, rfl⟩
      have HB6 := hid (HB5.out.trans (p.hb.mono HB5.out.size))
      clear E0 E1 hnn
      generalize p.W = w6 at HB6 ⊢
      go_wp2_with fail
      go_ret
      exact ⟨rfl, HB6.out⟩
    · rw [hq, if_pos rfl] at hp
      subst hp
      dsimp only at HPs
      have hne1 : (t.text.toList == x.toList) = true := by rw [toList_data, toList_data]; exact hq
      clear hq
      go_enter Tryz.func6, Tryz.ntmps6
      go_wp2_with fail
      refine HV.out.mono ?_
      rintro e w1 ⟨rfl, hb1⟩
      have HB1 := hid hb1
      clear hb1
      go_wp2_with fail
      refine (HPs.out _ HB1.out).mono ?_
      rintro e w2 ⟨rfl, hb2⟩
      have HB2 := hid (HB1.out.trans (hb2.mono HB1.out.size))
      have hbt := (Below.refl _ w2).alloc (Nat.le_refl _) (.cells #[.int .i64 t.kind, .string x, .bool false, .bool false, .int .i64 0, .int .i64 0, .int .i64 0, .int .i64 0, .slice none 0 0, .slice none 0 0, .int .i64 1] 43)
      have HK3 := hid (heap_alloc_new w2 (.cells #[.int .i64 t.kind, .string x, .bool false, .bool false, .int .i64 0, .int .i64 0, .int .i64 0, .int .i64 0, .slice none 0 0, .slice none 0 0, .int .i64 1] 43))
      have HB3 := hid (HB2.out.trans (hbt.mono HB2.out.size))
      clear hb2 hbt
      go_wp2_with fail
      generalize w2.alloc (.cells #[.int .i64 t.kind, .string x, .bool false, .bool false, .int .i64 0, .int .i64 0, .int .i64 0, .int .i64 0, .slice none 0 0, .slice none 0 0, .int .i64 1] 43) = w3 at HK3 HB3 ⊢
      generalize w2.heap.size = Bt at HK3 ⊢
      refine (HRT.out _).mono ?_
      rintro e w4 ⟨a4, c4, rfl, hT4, hb4, hcap4⟩
      have HB4 := hid (HB3.out.trans (hb4.mono HB3.out.size))
      have HK4 := hid ((hb4.block _ (lt_of_block HK3.out)).trans HK3.out)
      rcases hT4 with h0 | ⟨b0, off, rfl, hb0, hcx⟩
      · cases h0
      have hbf := (Below.refl _ w4).alloc (Nat.le_refl _) (.cells #[.int .i64 0, .int .i64 f1, .int .i64 f2] 29)
      have HB5 := hid (HB4.out.trans (hbf.mono HB4.out.size))
      have HK5 := hid ((hbf.block _ (lt_of_block HK4.out)).trans HK4.out)
      have e0 := (hbf.cell (p := ⟨b0, off + 0 * 11 + 0, none⟩) hb0).trans (hcx 0 t rfl 0 _ rfl)
      have e1 := (hbf.cell (p := ⟨b0, off + 0 * 11 + 1, none⟩) hb0).trans (hcx 0 t rfl 1 _ rfl)
      simp only [Nat.zero_mul, Nat.add_zero] at e0 e1
      have hlt0 : b0 < w4.heap.size := hb0
      clear hcx
      clear hb4 hcap4 hbf
      go_wp2_with fail
      generalize w4.alloc (.cells #[.int .i64 0, .int .i64 f1, .int .i64 f2] 29) = w5 at HB5 HK5 e0 e1 ⊢
      have E0 := Later.cell e0
      have E1 := Later.cell e1
      obtain ⟨⟨k0, k1, _, _, _, _, _, _, _, _, k10⟩, _⟩ := tok_block HK5.out
      have K0 := Later.cell k0
      have K1 := Later.cell k1
      have K10 := Later.cell k10
      clear e0 e1 k0 k1 k10
      have hnn : Nonempty (Later w5) := ⟨⟨_, Below.refl _ _⟩⟩
      refine region_later (by kernel_rfl) (by kernel_rfl) ?_
      repeat (first | go_big_quiet_step (fail) | quiet_step (fail))
      refine wpQuiet_nil ?_
      rintro _ ⟨p, rfl⟩
      have HB6 := hid (HB5.out.trans (p.hb.mono HB5.out.size))
      clear E0 E1 K0 K1 K10 hnn
      generalize p.W = w6 at HB6 ⊢
      go_wp2_with fail
      go_ret
      exact ⟨rfl, HB6.out⟩
  · have hf := HOK.out t (u :: r) rfl
    dsimp only at hf
    subst hf
    have hp := HPT.out _ rfl
    dsimp only at hp
    subst hp
    dsimp only at HPs
    clear HPT HOK
    obtain ⟨N, hN⟩ : ∃ N, (t :: u :: r).length = N := ⟨_, rfl⟩
    have hN1 : ((N : Int) == 1) = false := by rw [beq_eq_false_iff_ne]; rw [← hN]; simp; omega
    rw [hN] at HRT
    clear hN
    go_enter Tryz.func6, Tryz.ntmps6
    go_wp2_with fail
    refine HV.out.mono ?_
    rintro e w1 ⟨rfl, hb1⟩
    have HB1 := hid hb1
    clear hb1
    go_wp2_with fail
    refine (HPs.out _ HB1.out).mono ?_
    rintro e w2 ⟨rfl, hb2⟩
    have HB2 := hid (HB1.out.trans (hb2.mono HB1.out.size))
    have hbt := (Below.refl _ w2).alloc (Nat.le_refl _) (.cells #[.int .i64 0, .string ⟨#[]⟩, .bool false, .bool false, .int .i64 0, .int .i64 0, .int .i64 0, .int .i64 0, .slice none 0 0, .slice none 0 0, .int .i64 0] 43)
    have HK3 := hid (heap_alloc_new w2 (.cells #[.int .i64 0, .string ⟨#[]⟩, .bool false, .bool false, .int .i64 0, .int .i64 0, .int .i64 0, .int .i64 0, .slice none 0 0, .slice none 0 0, .int .i64 0] 43))
    have HB3 := hid (HB2.out.trans (hbt.mono HB2.out.size))
    clear hb2 hbt
    go_wp2_with fail
    generalize w2.alloc (.cells #[.int .i64 0, .string ⟨#[]⟩, .bool false, .bool false, .int .i64 0, .int .i64 0, .int .i64 0, .int .i64 0, .slice none 0 0, .slice none 0 0, .int .i64 0] 43) = w3 at HK3 HB3 ⊢
    generalize w2.heap.size = Bt at HK3 ⊢
    refine (HRT.out _).mono ?_
    rintro e w4 ⟨a4, c4, rfl, hT4, hb4, hcap4⟩
    have HB4 := hid (HB3.out.trans (hb4.mono HB3.out.size))
    have HK4 := hid ((hb4.block _ (lt_of_block HK3.out)).trans HK3.out)
    clear hT4
    have hbf := (Below.refl _ w4).alloc (Nat.le_refl _) (.cells #[.int .i64 0, .int .i64 f1, .int .i64 f2] 29)
    have HB5 := hid (HB4.out.trans (hbf.mono HB4.out.size))
    have HK5 := hid ((hbf.block _ (lt_of_block HK4.out)).trans HK4.out)
    clear hb4 hcap4 hbf
    go_wp2_with fail
    generalize w4.alloc (.cells #[.int .i64 0, .int .i64 f1, .int .i64 f2] 29) = w5 at HB5 HK5 ⊢
    have hnn : Nonempty (Later w5) := ⟨⟨_, Below.refl _ _⟩⟩
    refine region_later (by kernel_rfl) (by kernel_rfl) ?_
    repeat (first | go_big_quiet_step (fail) | quiet_step (fail))
    refine wpQuiet_nil ?_
    rintro _ ⟨p, rfl⟩
    have HB6 := hid (HB5.out.trans (p.hb.mono HB5.out.size))
    clear hnn
    generalize p.W = w6 at HB6 ⊢
    go_wp2_with fail
    go_ret
    exact ⟨rfl, HB6.out⟩
end Go.Proofs.YteklakpfbkcegaaGreatDoor
