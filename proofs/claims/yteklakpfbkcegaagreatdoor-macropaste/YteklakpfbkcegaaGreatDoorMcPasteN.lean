/- Walk of Paste, of a token that hides nothing, and of texts however long. -/
import Derived.Test.YteklakpfbkcegaaGreatDoorMcB
namespace Go.Proofs.YteklakpfbkcegaaGreatDoor
open Go.RowKit Go.Shelf

set_option maxRecDepth 100000 in
set_option maxHeartbeats 2000000 in
theorem Paste_wide (ak : Int) (ax : ByteArray) (asp af : Bool) (afi al ah an : Int) (ca : Option Addr) (cn cc : Nat) (am : Int) (bk : Int) (bx : ByteArray) (bsp bf : Bool) (bfi bl bh bn : Int) (ha : Option Addr) (hn hc : Nat) (ga : Option Addr) (gn gc : Nat) (bm : Int) (w : World) (hE : Env w) (hs : ax.size + bx.size ≤ 9223372036854775807) :
    Calls Tryz.prog 25 #[.agg #[.int .i64 ak, .string ax, .bool asp, .bool af, .int .i64 afi, .int .i64 al, .int .i64 ah, .int .i64 an, .slice none 0 0, .slice ca cn cc, .int .i64 am], .agg #[.int .i64 bk, .string bx, .bool bsp, .bool bf, .int .i64 bfi, .int .i64 bl, .int .i64 bh, .int .i64 bn, .slice ha hn hc, .slice ga gn gc, .int .i64 bm]] w fun e w' => e = .returned (match pasteT (ax.data.toList ++ bx.data.toList) with
      | some t => .tuple #[.agg #[.int .i64 t.kind, .string (ax ++ bx), .bool asp, .bool af, .int .i64 afi, .int .i64 al, .int .i64 ah, .int .i64 an, .slice none 0 0, .slice ca cn cc, .int .i64 1], .bool true]
      | none => .tuple #[.agg #[.int .i64 0, .string ⟨#[]⟩, .bool false, .bool false, .int .i64 0, .int .i64 0, .int .i64 0, .int .i64 0, .slice none 0 0, .slice none 0 0, .int .i64 0], .bool false]) ∧ Below w.heap.size w w' := by
  have hcat : (ax ++ bx).data.toList = ax.data.toList ++ bx.data.toList := by simp
  have HT := hid (fun W (hW : Below w.heap.size w W) => Tokens_any 0 (ax ++ bx) W (hE.below hW))
  rw [← hcat]
  clear hcat hE
  unfold TokPost faultV at HT
  have hadd : ∀ W : World, (Op.stringOp .add ax bx).run Tryz.prog W = .ok (.string (ax ++ bx)) W := fun W => run_string_add_sum W ax bx (by omega)
  generalize ax ++ bx = tx at HT hadd ⊢
  have hb0 : Below w.heap.size w (((w.alloc (.cells #[.int .i64 ak, .string ax, .bool asp, .bool af, .int .i64 afi, .int .i64 al, .int .i64 ah, .int .i64 an, .slice none 0 0, .slice ca cn cc, .int .i64 am] 43)).alloc (.cells #[.int .i64 bk, .string bx, .bool bsp, .bool bf, .int .i64 bfi, .int .i64 bl, .int .i64 bh, .int .i64 bn, .slice ha hn hc, .slice ga gn gc, .int .i64 bm] 43)).alloc (.cells #[.int .i64 0, .string ⟨#[]⟩, .bool false, .bool false, .int .i64 0, .int .i64 0, .int .i64 0, .int .i64 0, .slice none 0 0, .slice none 0 0, .int .i64 0] 43)) := (((Below.refl _ w).alloc (Nat.le_refl _) _).alloc (by simp) _).alloc (by simp; omega) _
  have HBY := hid (three_blocks w (.cells #[.int .i64 ak, .string ax, .bool asp, .bool af, .int .i64 afi, .int .i64 al, .int .i64 ah, .int .i64 an, .slice none 0 0, .slice ca cn cc, .int .i64 am] 43) (.cells #[.int .i64 bk, .string bx, .bool bsp, .bool bf, .int .i64 bfi, .int .i64 bl, .int .i64 bh, .int .i64 bn, .slice ha hn hc, .slice ga gn gc, .int .i64 bm] 43) (.cells #[.int .i64 0, .string ⟨#[]⟩, .bool false, .bool false, .int .i64 0, .int .i64 0, .int .i64 0, .int .i64 0, .slice none 0 0, .slice none 0 0, .int .i64 0] 43))
  have HB0 := hid hb0
  have HT0 := hid (HT.out _ hb0)
  have HS0 := hid (show (((w.alloc (.cells #[.int .i64 ak, .string ax, .bool asp, .bool af, .int .i64 afi, .int .i64 al, .int .i64 ah, .int .i64 an, .slice none 0 0, .slice ca cn cc, .int .i64 am] 43)).alloc (.cells #[.int .i64 bk, .string bx, .bool bsp, .bool bf, .int .i64 bfi, .int .i64 bl, .int .i64 bh, .int .i64 bn, .slice ha hn hc, .slice ga gn gc, .int .i64 bm] 43)).alloc (.cells #[.int .i64 0, .string ⟨#[]⟩, .bool false, .bool false, .int .i64 0, .int .i64 0, .int .i64 0, .int .i64 0, .slice none 0 0, .slice none 0 0, .int .i64 0] 43)).heap.size = w.heap.size + 1 + 1 + 1 by simp)
  clear hb0 HT
  have HP : Hid (∀ l : List Tk, (toksF 0 tx.data.toList).1 = l → pasteT tx.data.toList = match l with | [t] => if t.text.data.toList == tx.data.toList then some t else none | _ => none) := fun l h => by unfold pasteT; rw [h]; rcases l with _ | ⟨t, _ | ⟨u, r⟩⟩ <;> rfl
  rcases hts : (toksF 0 tx.data.toList).1 with _ | ⟨t, _ | ⟨u, r⟩⟩
  · rw [HP.out _ hts]
    rw [hts] at HT0
    clear hts HP
    dsimp only
    generalize (toksF 0 tx.data.toList).2 = FF at HT0
    obtain ⟨f0, f1, f2⟩ := FF
    go_enter Tryz.func25, Tryz.ntmps25
    go_wp2_with fail
    generalize (((w.alloc (.cells #[.int .i64 ak, .string ax, .bool asp, .bool af, .int .i64 afi, .int .i64 al, .int .i64 ah, .int .i64 an, .slice none 0 0, .slice ca cn cc, .int .i64 am] 43)).alloc (.cells #[.int .i64 bk, .string bx, .bool bsp, .bool bf, .int .i64 bfi, .int .i64 bl, .int .i64 bh, .int .i64 bn, .slice ha hn hc, .slice ga gn gc, .int .i64 bm] 43)).alloc (.cells #[.int .i64 0, .string ⟨#[]⟩, .bool false, .bool false, .int .i64 0, .int .i64 0, .int .i64 0, .int .i64 0, .slice none 0 0, .slice none 0 0, .int .i64 0] 43)) = w0 at HBY HB0 HT0 HS0 ⊢
    refine HT0.out.mono ?_
    rintro e w1 ⟨ta, tc, rfl, hTA, hb1, hcap⟩
    have hbn := hb1.alloc hb1.size (.cells #[.int .i64 f0, .int .i64 f1, .int .i64 f2] 29)
    have HB1 := hid (HB0.out.trans (hbn.mono HB0.out.size))
    have g1 := (hbn.block _ (lt_of_block HBY.out.1)).trans HBY.out.1
    have g2 := (hbn.block _ (lt_of_block HBY.out.2.1)).trans HBY.out.2.1
    have g3 := (hbn.block _ (lt_of_block HBY.out.2.2)).trans HBY.out.2.2
    have HL1 := hid (And.intro (lt_of_block g1) (lt_of_block g3))
    clear hTA hcap
    have HG3 := hid g3
    obtain ⟨⟨d0, d1, d2, d3, d4, d5, d6, d7, d8, d9, d10⟩, ⟨y0, y1, y2, y3, y4, y5, y6, y7, y8, y9, y10⟩⟩ := tok_block g3
    clear g1 g2 g3 hb1 hbn
    go_wp2_with fail
    exact bodyPost_ret (paste_ret (put_one HG3.out) _ rfl rfl) rfl ⟨rfl, put_one_below (by omega) HB1.out⟩
  · rw [HP.out _ hts]
    rw [hts] at HT0
    clear hts HP
    dsimp only
    rcases hq : (t.text.data.toList == tx.data.toList) with _ | _
    · rw [if_neg (by decide)]
      generalize (toksF 0 tx.data.toList).2 = FF at HT0
      obtain ⟨f0, f1, f2⟩ := FF
      go_enter Tryz.func25, Tryz.ntmps25
      go_wp2_with fail
      generalize (((w.alloc (.cells #[.int .i64 ak, .string ax, .bool asp, .bool af, .int .i64 afi, .int .i64 al, .int .i64 ah, .int .i64 an, .slice none 0 0, .slice ca cn cc, .int .i64 am] 43)).alloc (.cells #[.int .i64 bk, .string bx, .bool bsp, .bool bf, .int .i64 bfi, .int .i64 bl, .int .i64 bh, .int .i64 bn, .slice ha hn hc, .slice ga gn gc, .int .i64 bm] 43)).alloc (.cells #[.int .i64 0, .string ⟨#[]⟩, .bool false, .bool false, .int .i64 0, .int .i64 0, .int .i64 0, .int .i64 0, .slice none 0 0, .slice none 0 0, .int .i64 0] 43)) = w0 at HBY HB0 HT0 HS0 ⊢
      refine HT0.out.mono ?_
      rintro e w1 ⟨ta, tc, rfl, hTA, hb1, hcap⟩
      have hbn := hb1.alloc hb1.size (.cells #[.int .i64 f0, .int .i64 f1, .int .i64 f2] 29)
      have HB1 := hid (HB0.out.trans (hbn.mono HB0.out.size))
      have g1 := (hbn.block _ (lt_of_block HBY.out.1)).trans HBY.out.1
      have g2 := (hbn.block _ (lt_of_block HBY.out.2.1)).trans HBY.out.2.1
      have g3 := (hbn.block _ (lt_of_block HBY.out.2.2)).trans HBY.out.2.2
      have HL1 := hid (And.intro (lt_of_block g1) (lt_of_block g3))
      rcases hTA with h0 | ⟨b0, off, rfl, hb0, hcx⟩
      · cases h0
      have hbl := (Below.refl _ w1).alloc (Nat.le_refl _) (.cells #[.int .i64 f0, .int .i64 f1, .int .i64 f2] 29)
      have t0 := (hbl.cell (p := ⟨b0, off + 0 * 11 + 0, none⟩) hb0).trans (hcx 0 t rfl 0 _ rfl)
      have t1 := (hbl.cell (p := ⟨b0, off + 0 * 11 + 1, none⟩) hb0).trans (hcx 0 t rfl 1 _ rfl)
      simp only [Nat.zero_mul, Nat.add_zero] at t0 t1
      have hlt0 : b0 < w1.heap.size := hb0
      have hne1 : (t.text.toList == tx.toList) = false := by rw [toList_data, toList_data]; exact hq
      clear hcx hbl hcap hq
      have HG3 := hid g3
      obtain ⟨⟨d0, d1, d2, d3, d4, d5, d6, d7, d8, d9, d10⟩, ⟨y0, y1, y2, y3, y4, y5, y6, y7, y8, y9, y10⟩⟩ := tok_block g3
      clear g1 g2 g3 hb1 hbn
      go_wp2_with fail
      exact bodyPost_ret (paste_ret (put_one HG3.out) _ rfl rfl) rfl ⟨rfl, put_one_below (by omega) HB1.out⟩
    · rw [if_pos rfl]
      generalize (toksF 0 tx.data.toList).2 = FF at HT0
      obtain ⟨f0, f1, f2⟩ := FF
      go_enter Tryz.func25, Tryz.ntmps25
      go_wp2_with fail
      generalize (((w.alloc (.cells #[.int .i64 ak, .string ax, .bool asp, .bool af, .int .i64 afi, .int .i64 al, .int .i64 ah, .int .i64 an, .slice none 0 0, .slice ca cn cc, .int .i64 am] 43)).alloc (.cells #[.int .i64 bk, .string bx, .bool bsp, .bool bf, .int .i64 bfi, .int .i64 bl, .int .i64 bh, .int .i64 bn, .slice ha hn hc, .slice ga gn gc, .int .i64 bm] 43)).alloc (.cells #[.int .i64 0, .string ⟨#[]⟩, .bool false, .bool false, .int .i64 0, .int .i64 0, .int .i64 0, .int .i64 0, .slice none 0 0, .slice none 0 0, .int .i64 0] 43)) = w0 at HBY HB0 HT0 HS0 ⊢
      refine HT0.out.mono ?_
      rintro e w1 ⟨ta, tc, rfl, hTA, hb1, hcap⟩
      have hbn := hb1.alloc hb1.size (.cells #[.int .i64 f0, .int .i64 f1, .int .i64 f2] 29)
      have HB1 := hid (HB0.out.trans (hbn.mono HB0.out.size))
      have g1 := (hbn.block _ (lt_of_block HBY.out.1)).trans HBY.out.1
      have g2 := (hbn.block _ (lt_of_block HBY.out.2.1)).trans HBY.out.2.1
      have g3 := (hbn.block _ (lt_of_block HBY.out.2.2)).trans HBY.out.2.2
      have HL1 := hid (And.intro (lt_of_block g1) (lt_of_block g3))
      rcases hTA with h0 | ⟨b0, off, rfl, hb0, hcx⟩
      · cases h0
      have hbl := (Below.refl _ w1).alloc (Nat.le_refl _) (.cells #[.int .i64 f0, .int .i64 f1, .int .i64 f2] 29)
      have t0 := (hbl.cell (p := ⟨b0, off + 0 * 11 + 0, none⟩) hb0).trans (hcx 0 t rfl 0 _ rfl)
      have t1 := (hbl.cell (p := ⟨b0, off + 0 * 11 + 1, none⟩) hb0).trans (hcx 0 t rfl 1 _ rfl)
      simp only [Nat.zero_mul, Nat.add_zero] at t0 t1
      have hlt0 : b0 < w1.heap.size := hb0
      have hne1 : (t.text.toList == tx.toList) = true := by rw [toList_data, toList_data]; exact hq
      have HC := hid (fun W => cloneS_none W)
      have HD := hid (fun fv W => deleteS_none fv W)
      have HG3 := hid g3
      obtain ⟨⟨f0', f1', f2', f3', f4', f5', f6', f7', f8', f9', f10'⟩, ⟨z0, z1, z2, z3, z4, z5, z6, z7, z8, z9, z10⟩⟩ := tok_block g1
      obtain ⟨⟨d0, d1, d2, d3, d4, d5, d6, d7, d8, d9, d10⟩, ⟨y0, y1, y2, y3, y4, y5, y6, y7, y8, y9, y10⟩⟩ := tok_block g3
      have hne12 : w.heap.size ≠ w.heap.size + 1 + 1 := by omega
      clear hcx hbl hcap hq g1 g2 g3 hb1 hbn
      go_wp2_with fail
      refine (HC.out _).mono ?_
      rintro e w2 ⟨rfl, hw2⟩
      subst w2
      go_wp2_with fail
      refine (HD.out _ _).mono ?_
      rintro e w3 ⟨rfl, hw3⟩
      subst w3
      go_wp2_with fail
      exact bodyPost_ret (paste_ret (put_four (by omega) HG3.out) _ rfl rfl) rfl ⟨rfl, put_four_below (Nat.le_refl _) (by omega) HB1.out⟩
  · rw [HP.out _ hts]
    rw [hts] at HT0
    clear hts HP
    dsimp only
    generalize (toksF 0 tx.data.toList).2 = FF at HT0
    obtain ⟨f0, f1, f2⟩ := FF
    go_enter Tryz.func25, Tryz.ntmps25
    go_wp2_with fail
    generalize (((w.alloc (.cells #[.int .i64 ak, .string ax, .bool asp, .bool af, .int .i64 afi, .int .i64 al, .int .i64 ah, .int .i64 an, .slice none 0 0, .slice ca cn cc, .int .i64 am] 43)).alloc (.cells #[.int .i64 bk, .string bx, .bool bsp, .bool bf, .int .i64 bfi, .int .i64 bl, .int .i64 bh, .int .i64 bn, .slice ha hn hc, .slice ga gn gc, .int .i64 bm] 43)).alloc (.cells #[.int .i64 0, .string ⟨#[]⟩, .bool false, .bool false, .int .i64 0, .int .i64 0, .int .i64 0, .int .i64 0, .slice none 0 0, .slice none 0 0, .int .i64 0] 43)) = w0 at HBY HB0 HT0 HS0 ⊢
    refine HT0.out.mono ?_
    rintro e w1 ⟨ta, tc, rfl, hTA, hb1, hcap⟩
    have hbn := hb1.alloc hb1.size (.cells #[.int .i64 f0, .int .i64 f1, .int .i64 f2] 29)
    have HB1 := hid (HB0.out.trans (hbn.mono HB0.out.size))
    have g1 := (hbn.block _ (lt_of_block HBY.out.1)).trans HBY.out.1
    have g2 := (hbn.block _ (lt_of_block HBY.out.2.1)).trans HBY.out.2.1
    have g3 := (hbn.block _ (lt_of_block HBY.out.2.2)).trans HBY.out.2.2
    have HL1 := hid (And.intro (lt_of_block g1) (lt_of_block g3))
    have hln : (((r.length : Int) + 1 + 1) != 1) = true := by simp; omega
    have hln2 : ¬ ((r.length : Int) + 1 + 1 = 1) := by omega
    clear hTA hcap
    have HG3 := hid g3
    obtain ⟨⟨d0, d1, d2, d3, d4, d5, d6, d7, d8, d9, d10⟩, ⟨y0, y1, y2, y3, y4, y5, y6, y7, y8, y9, y10⟩⟩ := tok_block g3
    clear g1 g2 g3 hb1 hbn
    go_wp2_with fail
    exact bodyPost_ret (paste_ret (put_one HG3.out) _ rfl rfl) rfl ⟨rfl, put_one_below (by omega) HB1.out⟩
end Go.Proofs.YteklakpfbkcegaaGreatDoor
