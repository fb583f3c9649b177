/- Walk of the statement that all that macros are told to be they are. -/
import Derived.Test.YtedmcefckcmheaaGreatDoorMcG
import Derived.Test.YtedmcefckcmheaaGreatDoorMcDefineW
import Derived.Test.YtedmcefckcmheaaGreatDoorMcH
namespace Go.Proofs.YtedmcefckcmheaaGreatDoor
open Go.RowKit Go.Shelf

/-- The document's own Parse of a text's tokens. -/
theorem RParse_of (l : List UInt8) (a : Option Addr) (c : Nat) (w : World) (hT : TAt w a (toksF 0 l).1) :
    Calls Tryz.prog 9 #[.slice a (toksF 0 l).1.length c] w (ParsePost w (parsedS l)) :=
  RParse_any a c (toksF 0 l).1 w hT (Nat.le_trans (toks_small 0 l).1 (by decide)) (toks_name 0 l)
/-- Two lists of the same definitions. -/
def LL (w : World) (la : Option Addr) (vs : List Mv) (ra : Option Addr) (us : List Mv) (ms : List Mc) (W : World) : Prop := LSt w la vs ms W ∧ LSt w ra us ms W
theorem LL.below {w : World} {la ra : Option Addr} {vs us : List Mv} {ms : List Mc} {W W' : World} (h : LL w la vs ra us ms W) (hb : Below W.heap.size W W') : LL w la vs ra us ms W' := ⟨h.1.below hb, h.2.below hb⟩
/-- What lies there behind both Parses. -/
structure XSt (w : World) (la : Option Addr) (vs : List Mv) (ra : Option Addr) (us : List Mv) (ms : List Mc) (x y : Mv) (m : Mc) (e0 e1 e2 : Int) (Bx Fx By Fy : Nat) (W : World) : Prop where
  l : LL w la vs ra us ms W
  isx : MIs W x m
  isy : MIs W y m
  bx : MBox W Bx x
  fx : FBy W Fx e0 e1 e2
  by_ : MBox W By y
  fy : FBy W Fy e0 e1 e2
theorem XSt.below {w : World} {la ra : Option Addr} {vs us : List Mv} {ms : List Mc} {x y : Mv} {m : Mc} {e0 e1 e2 : Int} {Bx Fx By Fy : Nat} {W W' : World} (h : XSt w la vs ra us ms x y m e0 e1 e2 Bx Fx By Fy W) (hb : Below W.heap.size W W') : XSt w la vs ra us ms x y m e0 e1 e2 Bx Fx By Fy W' :=
  ⟨h.l.below hb, h.isx.below hb, h.isy.below hb, h.bx.below hb, (hb.block _ (lt_of_block h.fx)).trans h.fx, h.by_.below hb, (hb.block _ (lt_of_block h.fy)).trans h.fy⟩
theorem one_st (W : World) (a : ByteArray) : StAt (W.alloc (.cells #[.string a] 9)) (some ⟨W.heap.size, 0, none⟩) [a] := by
  refine .inr ⟨W.heap.size, 0, rfl, by simp, fun j x hx => ?_⟩
  rw [Go.Joins.cell_of_block (heap_alloc_new W _), Nat.zero_add]
  match j, hx with
  | 0, hx => simpa using hx
theorem hide_len (hs bs : List ByteArray) : (hideL hs bs).length ≤ hs.length := by
  exact List.length_filter_le _ _
theorem find_two {w : World} {vs us : List Mv} {ms : List Mc} (h : MsIs w vs ms) (h' : MsIs w us ms) (n : List UInt8) : findV vs n = findV us n := by
  rcases findV_M h n with ⟨h1, h2⟩ | ⟨k, h1, h2⟩ <;> rcases findV_M h' n with ⟨h3, h4⟩ | ⟨j, h3, h4⟩
  · rw [h1, h3]
  · rw [h2] at h4; cases h4
  · rw [h2] at h4; cases h4
  · rw [h2] at h4; cases h4; rw [h1, h3]
theorem MsAt.at {w : World} {a : Option Addr} {vs : List Mv} (h : MsAt w a vs) (j : Nat) (z : Mv) (hz : vs[j]? = some z) : ∃ b off, a = some ⟨b, off, none⟩ ∧ b < w.heap.size ∧ w.cell? ⟨b, off + j * 5, none⟩ = some (.string z.name) ∧ w.cell? ⟨b, off + j * 5 + 1, none⟩ = some (.bool z.call) ∧ w.cell? ⟨b, off + j * 5 + 2, none⟩ = some (.slice z.pa z.pn z.pc) ∧ w.cell? ⟨b, off + j * 5 + 3, none⟩ = some (.bool z.more) ∧ w.cell? ⟨b, off + j * 5 + 4, none⟩ = some (.slice z.ba z.bn z.bc) := by
  rcases h with ⟨rfl, _⟩ | ⟨b, off, rfl, hlt, hc⟩
  · simp at hz
  · have := hc j z hz
    exact ⟨b, off, rfl, hlt, by simpa using this 0 _ rfl, this 1 _ rfl, this 2 _ rfl, this 3 _ rfl, this 4 _ rfl⟩

set_option maxRecDepth 100000 in
set_option maxHeartbeats 4000000 in
theorem Mtells_walk (HR : RToks) (da : Option Addr) (dc : Nat) (ds : List ByteArray) (s a b : ByteArray) (w : World) (hD : StAt w da ds) (hdl : ds.length ≤ 1048575) (hab : a.size + b.size ≤ 1048576) (hE : Env w) :
    Calls Tryz.prog 3 #[.slice da ds.length dc, .string s, .string a, .string b] w fun e w' => e = .returned (.bool true) ∧ Below w.heap.size w w' := by
  have HTk := hid (fun s W => toks_any HR s W)
  unfold ToksPost at HTk
  have HPa := hid (fun l a c W hT hc => Parse_of l a c W hT hc)
  have HRp := hid (fun l a c W hT => RParse_of l a c W hT)
  unfold ParsePost at HPa HRp
  have HDe := hid (fun (w0 : World) a vs ms W (h : LSt w0 a vs ms W) c x m hx hm => Define_of h c (x := x) (m := m) hx hm)
  have HRd := hid (fun (w0 : World) a vs ms W (h : LSt w0 a vs ms W) c x m hx => RDefine_any a c vs ms x m W h.at_ h.is hx (Nat.le_trans h.vlen (by decide)) h.few)
  unfold DefPost at HDe HRd
  have HEq := hid (fun x y m W hx hy hf => REqual_same x y m W hx hy hf)
  have HSa := hid (fun x y mx my W hx hy (h1 : Few mx) (h2 : Few my) => Same_any x y mx my W hx hy h1.1 h2.1 h1.2)
  have HRs := hid (fun x y mx my W hx hy h => RSame_any x y mx my W hx hy h)
  unfold aggM at HPa HRp HDe HRd HEq HSa HRs
  have HD := hid hD
  have HE := hid hE
  have HAb := hid hab
  obtain ⟨N, hN⟩ : ∃ N, ds.length = N := ⟨_, rfl⟩
  have HN := hid hN
  rw [hN] at hdl ⊢
  clear hD hE hN hab
  go_enter Tryz.func3, Tryz.ntmps3
  go_wp2_with fail
  go_loopw [9, 10, 30] (fun lv mv x wr => ∃ (k : Nat) (la : Option Addr) (lc : Nat) (vs : List Mv) (ra : Option Addr) (rc : Nat) (us : List Mv) (ms : List Mc), k ≤ N ∧ lv = .slice la vs.length lc ∧ mv = .slice ra us.length rc ∧ x = .int .i64 k ∧ Hid (LL w la vs ra us ms wr)) (fun _ _ x _ => N - (intOf x).toNat)
  case atStart =>
    have h0 : LSt w none [] [] w := ⟨Below.refl _ _, .inl ⟨rfl, rfl⟩, MsIs.nil, (fun o ho => by cases ho), Nat.zero_le _⟩
    exact ⟨0, none, 0, [], none, 0, [], [], Nat.zero_le _, rfl, rfl, rfl, h0, h0⟩
  case round =>
    obtain ⟨k, la, lc, vs, ra, rc, us, ms, hk, rfl, rfl, rfl, HS⟩ := hrel
    by_cases hlt : k < N
    · obtain ⟨d, hd⟩ : ∃ d, ds[k]? = some d := ⟨_, List.getElem?_eq_getElem (by rw [HN.out]; exact hlt)⟩
      rcases HD.out with h0 | ⟨db, off, rfl, hdb, hdc⟩
      · rw [h0] at hd; cases hd
      have hcell := (HS.out.1.old.cell (p := ⟨db, off + k, none⟩) hdb).trans (hdc k d hd)
      have HF := hid (parsed_few d.data.toList)
      have HPd := hid (HPa.out d.data.toList)
      have HRd' := hid (HRp.out d.data.toList)
      have HTd := hid (HTk.out d)
      generalize parsedS d.data.toList = R at HF HPd HRd'
      generalize (toksF 0 d.data.toList).1 = ts at HPd HTd HRd'
      obtain ⟨m, e0, e1, e2⟩ := R
      dsimp only at HF HPd HRd'
      have hki : (k : Int) < (N : Int) := Int.ofNat_lt.2 hlt
      have hk0 : (0 : Int) ≤ (k : Int) := Int.natCast_nonneg _
      clear hdc hd hdb
      go_wp2_with fail
      refine (HTd.out _).mono ?_
      rintro e w2 ⟨a2, c2, rfl, hT2, hb2, hc2⟩
      have HS2 := hid (HS.out.below hb2)
      have HP2 := hid (HPd.out a2 c2 w2 hT2 hc2)
      clear hcell hT2 hb2 hc2 HPd HS
      go_wp2_with fail
      refine HP2.out.mono ?_
      rintro e w3 ⟨x, rfl, hx3, hb3⟩
      have hbn : Below w3.heap.size w3 ((w3.alloc (.cells #[.string x.name, .bool x.call, .slice x.pa x.pn x.pc, .bool x.more, .slice x.ba x.bn x.bc] 26)).alloc (.cells #[.int .i64 e0, .int .i64 e1, .int .i64 e2] 29)) := ((Below.refl _ w3).alloc (Nat.le_refl _) _).alloc (by simp) _
      have HS4 := hid ((HS2.out.below hb3).below hbn)
      have HX4 := hid (hx3.below hbn)
      have HB4 := hid (two_blocks w3 (.cells #[.string x.name, .bool x.call, .slice x.pa x.pn x.pc, .bool x.more, .slice x.ba x.bn x.bc] 26) (.cells #[.int .i64 e0, .int .i64 e1, .int .i64 e2] 29))
      clear hbn hx3 hb3 HP2 HS2
      go_wp2_with fail
      generalize ((w3.alloc (.cells #[.string x.name, .bool x.call, .slice x.pa x.pn x.pc, .bool x.more, .slice x.ba x.bn x.bc] 26)).alloc (.cells #[.int .i64 e0, .int .i64 e1, .int .i64 e2] 29)) = w4 at HS4 HX4 HB4 ⊢
      refine (HTd.out _).mono ?_
      rintro e w5 ⟨a5, c5, rfl, hT5, hb5, hc5⟩
      have HS5 := hid (HS4.out.below hb5)
      have HX5 := hid (HX4.out.below hb5)
      have HB5 : Hid (MBox w5 w3.heap.size x ∧ FBy w5 (w3.heap.size + 1) e0 e1 e2) := ⟨(hb5.block _ (lt_of_block HB4.out.1)).trans HB4.out.1, (hb5.block _ (lt_of_block HB4.out.2)).trans HB4.out.2⟩
      have HP5 := hid (HRd'.out a5 c5 w5 hT5)
      clear hT5 hb5 hc5 HRd' HTd HS4 HX4 HB4
      generalize w3.heap.size = Bx at *
      generalize Bx + 1 = Fx at *
      go_wp2_with fail
      refine HP5.out.mono ?_
      rintro e w6 ⟨y, rfl, hy6, hb6⟩
      have HBx6 := hid (HB5.out.1.below hb6)
      have HFx6 : Hid (FBy w6 Fx e0 e1 e2) := (hb6.block _ (lt_of_block HB5.out.2)).trans HB5.out.2
      obtain ⟨f0, f1, f2, _⟩ := HFx6.out.facts
      obtain ⟨⟨m0, m1, m2, m3, m4⟩, _⟩ := HBx6.out.facts
      have hFx1 := lt_of_block HFx6.out
      have hBx1 := lt_of_block HBx6.out
      have hbn : Below w6.heap.size w6 ((w6.alloc (.cells #[.string y.name, .bool y.call, .slice y.pa y.pn y.pc, .bool y.more, .slice y.ba y.bn y.bc] 26)).alloc (.cells #[.int .i64 e0, .int .i64 e1, .int .i64 e2] 29)) := ((Below.refl _ w6).alloc (Nat.le_refl _) _).alloc (by simp) _
      have HB7 := hid (two_blocks w6 (.cells #[.string y.name, .bool y.call, .slice y.pa y.pn y.pc, .bool y.more, .slice y.ba y.bn y.bc] 26) (.cells #[.int .i64 e0, .int .i64 e1, .int .i64 e2] 29))
      have hb7 := (hb6.trans (hbn.mono hb6.size))
      have HX7 : Hid (XSt w la vs ra us ms x y m e0 e1 e2 Bx Fx w6.heap.size (w6.heap.size + 1) ((w6.alloc (.cells #[.string y.name, .bool y.call, .slice y.pa y.pn y.pc, .bool y.more, .slice y.ba y.bn y.bc] 26)).alloc (.cells #[.int .i64 e0, .int .i64 e1, .int .i64 e2] 29))) :=
        ⟨HS5.out.below hb7, HX5.out.below hb7, hy6.below hbn, HB5.out.1.below hb7, (hb7.block _ (lt_of_block HB5.out.2)).trans HB5.out.2, HB7.out.1, HB7.out.2⟩
      clear hbn hy6 hb6 hb7 HP5 HS5 HX5 HB5 HB7
      go_wp2_with fail
      generalize ((w6.alloc (.cells #[.string y.name, .bool y.call, .slice y.pa y.pn y.pc, .bool y.more, .slice y.ba y.bn y.bc] 26)).alloc (.cells #[.int .i64 e0, .int .i64 e1, .int .i64 e2] 29)) = w7 at *
      generalize w6.heap.size = By at *
      generalize By + 1 = Fy at *
      clear f0 f1 f2 m0 m1 m2 m3 m4 hFx1 hBx1 HBx6 HFx6
      refine (HEq.out x y m w7 HX7.out.isx HX7.out.isy HF.out).mono ?_
      rintro e w8 ⟨rfl, hb8⟩
      have HX8 := hid (HX7.out.below hb8)
      clear hb8 HX7
      obtain ⟨g0, g1, g2, _⟩ := HX8.out.fy.facts
      by_cases he : e0 = 0
      · subst he
        obtain ⟨K, hK⟩ : ∃ K, us.length = K := ⟨_, rfl⟩
        have HK := hid hK
        have HK30 : Hid (K ≤ 30) := by show _ ≤ _; rw [← hK]; exact HX8.out.l.2.vlen
        rw [hK]
        clear hK
        go_wp2_with fail
        go_loopw [60] (fun sj wr => ∃ j : Nat, j ≤ K ∧ sj = .int .i64 j ∧ Hid (XSt w la vs ra us ms x y m 0 e1 e2 Bx Fx By Fy wr)) (fun sj _ => K - (intOf sj).toNat)
        case atStart => exact ⟨0, Nat.zero_le _, rfl, HX8⟩
        case round =>
          clear g0 g1 g2
          obtain ⟨j, hj, rfl, HXj⟩ := hrel
          by_cases hjK : j < K
          · obtain ⟨z, hz⟩ : ∃ z, us[j]? = some z := ⟨_, List.getElem?_eq_getElem (by rw [HK.out]; exact hjK)⟩
            obtain ⟨mz, hmz⟩ : ∃ mz, ms[j]? = some mz := ⟨_, List.getElem?_eq_getElem (by rw [← HXj.out.l.2.is.1, HK.out]; exact hjK)⟩
            have hiz := HXj.out.l.2.is.2 j z mz hz hmz
            have HFz := hid (HXj.out.l.2.few mz (List.mem_of_getElem? hmz))
            obtain ⟨ub, uo, rfl, hub, u0, u1, u2, u3, u4⟩ := HXj.out.l.2.at_.at j z hz
            have hji : (j : Int) < (K : Int) := Int.ofNat_lt.2 hjK
            have hj0 : (0 : Int) ≤ (j : Int) := Int.natCast_nonneg _
            have hbz : Below wr.heap.size wr (wr.alloc (.cells #[.string z.name, .bool z.call, .slice z.pa z.pn z.pc, .bool z.more, .slice z.ba z.bn z.bc] 26)) := (Below.refl _ wr).alloc (Nat.le_refl _) _
            have HXz := hid (HXj.out.below hbz)
            have HIz := hid (hiz.below hbz)
            have HBz : Hid (MBox (wr.alloc (.cells #[.string z.name, .bool z.call, .slice z.pa z.pn z.pc, .bool z.more, .slice z.ba z.bn z.bc] 26)) wr.heap.size z) := heap_alloc_new wr _
            clear hz hmz hiz hbz HXj
            have hubb : ub ≠ wr.heap.size := by omega
            go_wp2_with fail
            generalize wr.alloc (.cells #[.string z.name, .bool z.call, .slice z.pa z.pn z.pc, .bool z.more, .slice z.ba z.bn z.bc] 26) = wz at *
            obtain ⟨⟨m0, m1, m2, m3, m4⟩, _⟩ := HXz.out.bx.facts
            obtain ⟨⟨n0, n1, n2, n3, n4⟩, _⟩ := HXz.out.by_.facts
            obtain ⟨⟨z0, z1, z2, z3, z4⟩, _⟩ := HBz.out.facts
            have r0 := Later.cell m0
            have r1 := Later.cell m1
            have r2 := Later.cell m2
            have r3 := Later.cell m3
            have r4 := Later.cell m4
            have s0 := Later.cell n0
            have s1 := Later.cell n1
            have s2 := Later.cell n2
            have s3 := Later.cell n3
            have s4 := Later.cell n4
            have t0 := Later.cell z0
            have t1 := Later.cell z1
            have t2 := Later.cell z2
            have t3 := Later.cell z3
            have t4 := Later.cell z4
            have HL1 := hid (fun p : Later wz => HSa.out x z m mz p.W (HXz.out.isx.below p.hb) (HIz.out.below p.hb) HF.out HFz.out)
            have HL2 := hid (fun p : Later wz => HRs.out y z m mz p.W (HXz.out.isy.below p.hb) (HIz.out.below p.hb) HF.out)
            generalize sameM m mz = sm at HL1 HL2
            have hnn : Nonempty (Later wz) := ⟨⟨_, Below.refl _ _⟩⟩
            clear m0 m1 m2 m3 m4 n0 n1 n2 n3 n4 z0 z1 z2 z3 z4 u0 u1 u2 u3 u4 hubb hub
            refine region_later (by kernel_rfl) (by kernel_rfl) ?_
            repeat (first | go_big_quiet_step (first | (go_at_call 11; exact Calls.later (HL1.out _)) | (go_at_call 12; exact Calls.later (HL2.out _))) | quiet_step (first | (go_at_call 11; exact Calls.later (HL1.out _)) | (go_at_call 12; exact Calls.later (HL2.out _))))
            refine wpQuiet_nil ?_
            rintro _ ⟨p, rfl⟩
            have HXp := hid (HXz.out.below p.hb)
            clear r0 r1 r2 r3 r4 s0 s1 s2 s3 s4 t0 t1 t2 t3 t4 hnn HL1 HL2 HXz HIz HBz
            generalize p.W = wp at HXp ⊢
            have hjs : j ≤ 60 := by have := HK30.out; omega
            go_wp2_with fail
            exact ⟨⟨j + 1, hjK, by go_num, HXp⟩, less_j hjK (by go_num)⟩
          · obtain rfl : j = K := by omega
            have HDx := hid (HDe.out w la vs ms wr HXj.out.l.1 lc x m HXj.out.isx HF.out)
            have HDI := hid (def_is HXj.out.l.1.is HXj.out.isx)
            have HDL := hid (fun a' W' h1 h2 => HXj.out.l.1.def HXj.out.isx HF.out (a' := a') (W' := W') h1 h2)
            have HRx := hid (fun W (hb : Below wr.heap.size wr W) => HRd.out w ra us ms W (HXj.out.l.2.below hb) rc y m (HXj.out.isy.below hb))
            have HRI := hid (def_is HXj.out.l.2.is HXj.out.isy)
            have HRL := hid (fun W (hb : Below wr.heap.size wr W) a' W' h1 h2 => (HXj.out.l.2.below hb).def (HXj.out.isy.below hb) HF.out (a' := a') (W' := W') h1 h2)
            rw [HK.out] at HRx
            generalize defV vs ms x m = r at HDx HDI HDL
            generalize defV us ms y m = r' at HRx HRI HRL
            generalize defM ms m = D at HDI HDL HRI HRL
            obtain ⟨vs', er⟩ := r
            obtain ⟨us', er'⟩ := r'
            obtain ⟨ms', ed⟩ := D
            dsimp only at HDx HDI HDL HRx HRI HRL
            obtain rfl : er = ed := HDI.out.1
            obtain rfl : er' = er := HRI.out.1
            clear HDI HRI
            obtain ⟨⟨m0, m1, m2, m3, m4⟩, _⟩ := HXj.out.bx.facts
            go_wp2_with fail
            refine HDx.out.mono ?_
            rintro e w9 ⟨a9, c9, rfl, hM9, hb9⟩
            have HL9 := hid (HDL.out a9 w9 hM9 hb9)
            have HX9 := hid (HXj.out.below hb9)
            have HR9 := hid (HRx.out w9 hb9)
            have HRL9 := hid (HRL.out w9 hb9)
            clear hM9 hb9 HDx HDL HRx HRL HXj m0 m1 m2 m3 m4
            obtain ⟨⟨n0, n1, n2, n3, n4⟩, _⟩ := HX9.out.by_.facts
            go_wp2_with fail
            refine HR9.out.mono ?_
            rintro e w10 ⟨a10, c10, rfl, hM10, hb10⟩
            have HL10 := hid (HL9.out.below hb10)
            have HQ10 := hid (HRL9.out a10 w10 hM10 hb10)
            have HS10 := hid (HX9.out.l.below hb10)
            clear hM10 hb10 HR9 HRL9 HX9 HL9 n0 n1 n2 n3 n4
            have HEM := hid (REqualM_same a9 a10 c9 c10 vs' us' ms' w10 HL10.out.at_ HQ10.out.at_ HL10.out.is HQ10.out.is (Nat.le_trans HL10.out.len (by decide)) HL10.out.few)
            by_cases her : er' = 0
            · subst her
              go_wp2_with fail
              refine HEM.out.mono ?_
              rintro e w11 ⟨rfl, hb11⟩
              have HS11 : Hid (LL w a9 vs' a10 us' ms' w11) := ⟨HL10.out.below hb11, HQ10.out.below hb11⟩
              clear hb11 HEM HL10 HQ10 HS10
              go_wp2_with fail
              exact ⟨⟨k + 1, a9, c9, vs', a10, c10, us', ms', hlt, rfl, rfl, by go_num, HS11⟩, less_j hlt (by go_num)⟩
            · have herb : (er' == 0) = false := by simpa using her
              go_wp2_with fail
              refine HEM.out.mono ?_
              rintro e w11 ⟨rfl, hb11⟩
              have HS11 := hid (HS10.out.below hb11)
              clear hb11 HEM HL10 HQ10 HS10
              go_wp2_with fail
              exact ⟨⟨k + 1, la, lc, vs, ra, rc, us, ms, hlt, rfl, by rw [HK.out], by go_num, HS11⟩, less_j hlt (by go_num)⟩
      · have heb : (e0 == 0) = false := by simpa using he
        have heb' : (e0 != 0) = true := by simp [bne, heb]
        go_wp2_with fail
        exact ⟨⟨k + 1, la, lc, vs, ra, rc, us, ms, hlt, rfl, rfl, by go_num, HX8.out.l⟩, less_j hlt (by go_num)⟩
    · obtain rfl : k = N := by omega
      have HFi := hid (Find_any la lc vs a wr HS.out.1.at_ (Nat.le_trans HS.out.1.vlen (by decide)))
      have HRf := hid (fun W (hb : Below wr.heap.size wr W) => RFind_any' ra rc us a W (HS.out.2.at_.below hb) (Nat.le_trans HS.out.2.vlen (by decide)))
      rw [← find_two HS.out.1.is HS.out.2.is] at HRf
      generalize findV vs a.toList = fv at HFi HRf
      have HUn := hid (fun W (hb : Below wr.heap.size wr W) => Undef_any la lc vs a W (HS.out.1.at_.below hb) (Nat.le_trans HS.out.1.vlen (by decide)))
      have HRu := hid (fun W (hb : Below wr.heap.size wr W) => RUndef_any ra rc us a W (HS.out.2.at_.below hb) (Nat.le_trans HS.out.2.vlen (by decide)))
      unfold DelPost at HUn HRu
      have HSu := hid (fun W (hb : Below wr.heap.size wr W) a' W' h1 h2 => (HS.out.1.below hb).stay a.toList (a' := a') (W' := W') h1 h2)
      have HSv := hid (fun W (hb : Below wr.heap.size wr W) a' W' h1 h2 => (HS.out.2.below hb).stay a.toList (a' := a') (W' := W') h1 h2)
      generalize stay a.toList vs = vs' at HUn HSu
      generalize stay a.toList us = us' at HRu HSv
      generalize stayM a.toList ms = ms' at HSu HSv
      have HBu := hid (fun W => Builtin_any a W)
      have HHa := hid (fun W => RHas_any (some ⟨W.heap.size, 0, none⟩) 3 builtinS a (W.alloc (.cells #[.string ⟨#[95, 95, 76, 73, 78, 69, 95, 95]⟩, .string ⟨#[95, 95, 70, 73, 76, 69, 95, 95]⟩, .string ⟨#[100, 101, 102, 105, 110, 101, 100]⟩] 9)) (three_new W) (by decide))
      rw [has_builtin] at HHa
      generalize builtinB a.toList = bb at HBu HHa
      have HO := hid HS.out.1.old
      clear HS
      go_wp2_with fail
      refine HFi.out.mono ?_
      rintro e w2 ⟨rfl, hb2⟩
      have HB2 := hid hb2
      clear hb2
      go_wp2_with fail
      refine (HRf.out w2 HB2.out).mono ?_
      rintro e w3 ⟨rfl, hb3⟩
      have HB3 := hid (HB2.out.trans (hb3.mono HB2.out.size))
      clear hb3 HB2
      go_wp2_with fail
      refine (HUn.out w3 HB3.out).mono ?_
      rintro e w4 ⟨a4, c4, rfl, hM4, hb4⟩
      have HB4 := hid (HB3.out.trans (hb4.mono HB3.out.size))
      have HL4 := hid (HSu.out w3 HB3.out a4 w4 hM4 hb4)
      clear hM4 hb4 HB3
      go_wp2_with fail
      refine (HRu.out w4 HB4.out).mono ?_
      rintro e w5 ⟨a5, c5, rfl, hM5, hb5⟩
      have HB5 := hid (HB4.out.trans (hb5.mono HB4.out.size))
      have HL5 := hid (HSv.out w4 HB4.out a5 w5 hM5 hb5)
      have HL5' := hid (HL4.out.below hb5)
      clear hM5 hb5 HB4 HL4
      have HEM := hid (REqualM_same a4 a5 c4 c5 vs' us' ms' w5 HL5'.out.at_ HL5.out.at_ HL5'.out.is HL5.out.is (Nat.le_trans HL5.out.len (by decide)) HL5.out.few)
      go_wp2_with fail
      refine HEM.out.mono ?_
      rintro e w6 ⟨rfl, hb6⟩
      have HB6 := hid (HB5.out.trans (hb6.mono HB5.out.size))
      clear hb6 HB5 HL5 HL5' HEM
      go_wp2_with fail
      refine (HBu.out w6).mono ?_
      rintro e w6' ⟨rfl, hw6⟩
      subst w6'
      go_wp2_with fail
      refine (HHa.out w6).mono ?_
      rintro e w7 ⟨rfl, hb7⟩
      have hb67 := ((Below.refl w6.heap.size w6).alloc (Nat.le_refl _) (.cells #[.string ⟨#[95, 95, 76, 73, 78, 69, 95, 95]⟩, .string ⟨#[95, 95, 70, 73, 76, 69, 95, 95]⟩, .string ⟨#[100, 101, 102, 105, 110, 101, 100]⟩] 9))
      have HB7 := hid (HB6.out.trans ((hb67.trans (hb7.mono hb67.size)).mono HB6.out.size))
      clear hb7 hb67 HB6
      go_wp2_with fail
      have hbT := (Below.refl w7.heap.size w7).alloc (Nat.le_refl _) (.cells #[.int .i64 0, .string ⟨#[]⟩, .bool true, .bool false, .int .i64 2, .int .i64 7, .int .i64 9, .int .i64 4, .slice none 0 0, .slice none 0 0, .int .i64 0] 43)
      have HBT := hid (HB7.out.trans (hbT.mono HB7.out.size))
      have HBy := hid (heap_alloc_new w7 (.cells #[.int .i64 0, .string ⟨#[]⟩, .bool true, .bool false, .int .i64 2, .int .i64 7, .int .i64 9, .int .i64 4, .slice none 0 0, .slice none 0 0, .int .i64 0] 43))
      clear hbT HB7
      generalize w7.alloc (.cells #[.int .i64 0, .string ⟨#[]⟩, .bool true, .bool false, .int .i64 2, .int .i64 7, .int .i64 9, .int .i64 4, .slice none 0 0, .slice none 0 0, .int .i64 0] 43) = wT at *
      generalize w7.heap.size = B at *
      have HET := hid (HE.out.below (HO.out.trans (HBT.out.mono HO.out.size)))
      have HTs := hid (HTk.out s)
      have HQu := hid (fun aa ca W (hT : TAt W aa (toksF 0 s.data.toList).1) (hb : Below wT.heap.size wT W) => Quote_any aa ca (toksF 0 s.data.toList).1 0 ⟨#[]⟩ true false 2 7 9 4 none 0 0 none 0 0 0 W (HET.out.below hb).1 hT (Nat.le_trans (toks_small 0 _).1 (by decide)) (fun t ht => Nat.le_trans ((toks_small 0 _).2 t ht) (by decide)))
      have HRq := hid (fun aa ca W (hT : TAt W aa (toksF 0 s.data.toList).1) => RQuote_any aa ca (toksF 0 s.data.toList).1 0 ⟨#[]⟩ true false 2 7 9 4 none 0 0 none 0 0 0 W hT (Nat.le_trans (toks_small 0 _).1 (by decide)) (fun t ht => Nat.le_trans ((toks_small 0 _).2 t ht) (by decide)))
      generalize (toksF 0 s.data.toList).1 = ts at HTs HQu HRq
      generalize (⟨(quoteL ts).toArray⟩ : ByteArray) = qt at HQu HRq
      have HSt := hid (fun W => SameTokG 4 qt true false 2 7 9 4 2 none none 0 0 [] W (.inl rfl) (.inl rfl) (by simp))
      have hB := (Below.refl wT.heap.size wT).drew
      go_region_held3 (fun W => W.cell? ⟨B, 0, none⟩ = some (.int .i64 0) ∧ W.cell? ⟨B, 1, none⟩ = some (.string ⟨#[]⟩) ∧ W.cell? ⟨B, 2, none⟩ = some (.bool true) ∧ W.cell? ⟨B, 3, none⟩ = some (.bool false) ∧ W.cell? ⟨B, 4, none⟩ = some (.int .i64 2) ∧ W.cell? ⟨B, 5, none⟩ = some (.int .i64 7) ∧ W.cell? ⟨B, 6, none⟩ = some (.int .i64 9) ∧ W.cell? ⟨B, 7, none⟩ = some (.int .i64 4) ∧ W.cell? ⟨B, 8, none⟩ = some (.slice none 0 0) ∧ W.cell? ⟨B, 9, none⟩ = some (.slice none 0 0) ∧ W.cell? ⟨B, 10, none⟩ = some (.int .i64 0))
        (exact (tok_block ((hB.block _ (lt_of_block HBy.out)).trans HBy.out)).1)
        ((first
          | (go_at_call 8; refine (HTs.out _).mono ?_; rintro e wa ⟨aa, ca, rfl, hTa, hba, hca⟩; have hB := hB.trans (hba.mono hB.size))
          | (go_at_call 23; refine (HQu.out aa ca _ hTa hB).mono ?_; rintro e wq ⟨rfl, hbq⟩; have hB := hB.trans (hbq.mono hB.size))
          | (go_at_call 24; refine (HRq.out aa ca _ hTa).mono ?_; rintro e wq ⟨rfl, hbq⟩; have hB := hB.trans (hbq.mono hB.size))
          | (go_at_call 22; refine (HSt.out _).mono ?_; rintro e wq ⟨rfl, hbq⟩; have hB := hB.trans (hbq.mono hB.size))))
      all_goals (have HB8 := hid (HBT.out.trans (hB.mono HBT.out.size)))
      clear HQu HRq HSt HTs HBy hTa hba hca
      clear hB hbq
      have HP1 := hid (fun W (hb : Below wr.heap.size wr W) => Paste_any 0 a false false 0 0 0 0 da dc ds none 0 0 0 0 b false false 0 0 0 0 (some ⟨W.heap.size, 0, none⟩) 1 [a] none 0 0 0 (W.alloc (.cells #[.string a] 9)) (HE.out.below (HO.out.trans ((hb.alloc hb.size _).mono HO.out.size))) HAb.out (HD.out.below (HO.out.trans ((hb.alloc hb.size _).mono HO.out.size))) (one_st W a) (by rw [HN.out]; omega) (by simp))
      have HP2 := hid (fun W (hb : Below wr.heap.size wr W) => RPaste_any HR 0 a false false 0 0 0 0 da dc ds none 0 0 0 0 b false false 0 0 0 0 (some ⟨W.heap.size, 0, none⟩) 1 [a] none 0 0 0 (W.alloc (.cells #[.string a] 9)) HAb.out (HD.out.below (HO.out.trans ((hb.alloc hb.size _).mono HO.out.size))) (one_st W a) (by rw [HN.out]; omega) (by simp))
      rw [HN.out] at HP1 HP2
      simp only [List.length_cons, List.length_nil, Nat.zero_add] at HP1 HP2
      have HHl : Hid ((hideL ds [a]).length ≤ 1048576) := by
        show _ ≤ _
        have h := hide_len ds [a]
        rw [HN.out] at h
        omega
      generalize pasteT (a.data.toList ++ b.data.toList) = o at HP1 HP2
      generalize a ++ b = ab at HP1 HP2
      generalize hideL ds [a] = hs at HP1 HP2 HHl
      generalize wq = w8 at *
      rcases o with _ | t
      · unfold PasteR at HP1 HP2
        dsimp only at HP1 HP2
        go_wp2_with fail
        refine (HP1.out w8 HB8.out).mono ?_
        rintro e w9 ⟨rfl, hb9⟩
        have hbp := (Below.refl w8.heap.size w8).alloc (Nat.le_refl _) (.cells #[.string a] 9)
        have hb89 := hbp.trans (hb9.mono hbp.size)
        have hbX := (Below.refl w9.heap.size w9).alloc (Nat.le_refl _) (.cells #[.int .i64 0, .string ⟨#[]⟩, .bool false, .bool false, .int .i64 0, .int .i64 0, .int .i64 0, .int .i64 0, .slice none 0 0, .slice none 0 0, .int .i64 0] 43)
        have HB10 := hid ((HB8.out.trans (hb89.mono HB8.out.size)).trans (hbX.mono (HB8.out.trans (hb89.mono HB8.out.size)).size))
        have HX10 := hid (heap_alloc_new w9 (.cells #[.int .i64 0, .string ⟨#[]⟩, .bool false, .bool false, .int .i64 0, .int .i64 0, .int .i64 0, .int .i64 0, .slice none 0 0, .slice none 0 0, .int .i64 0] 43))
        clear hbp hb89 hbX hb9
        go_wp2_with fail
        have hsz10 : (w9.alloc (.cells #[.int .i64 0, .string ⟨#[]⟩, .bool false, .bool false, .int .i64 0, .int .i64 0, .int .i64 0, .int .i64 0, .slice none 0 0, .slice none 0 0, .int .i64 0] 43)).heap.size = w9.heap.size + 1 := by simp
        generalize w9.alloc (.cells #[.int .i64 0, .string ⟨#[]⟩, .bool false, .bool false, .int .i64 0, .int .i64 0, .int .i64 0, .int .i64 0, .slice none 0 0, .slice none 0 0, .int .i64 0] 43) = w10 at *
        generalize w9.heap.size = X1 at *
        have HP2' := hid (HP2.out w10 HB10.out)
        rw [hsz10] at HP2'
        clear hsz10
        refine HP2'.out.mono ?_
        rintro e w11 ⟨rfl, hb11⟩
        have hbp := (Below.refl w10.heap.size w10).alloc (Nat.le_refl _) (.cells #[.string a] 9)
        have hb1011 := hbp.trans (hb11.mono hbp.size)
        have HB11 := hid (HB10.out.trans (hb1011.mono HB10.out.size))
        have HX11 := hid ((hb1011.block _ (lt_of_block HX10.out)).trans HX10.out)
        have HSm := hid (fun W (_ : Below w11.heap.size w11 W) => SameTokG 0 ⟨#[]⟩ false false 0 0 0 0 0 none none 0 0 [] W (.inl rfl) (.inl rfl) (by simp))
        clear hbp hb1011 hb11
        obtain ⟨⟨x0, x1, x2, x3, x4, x5, x6, x7, x8, x9, x10⟩, _⟩ := tok_block HX11.out
        have hX1 := lt_of_block HX11.out
        have hX2 : X1 ≠ w11.heap.size := by omega
        go_wp2_with fail
        refine (HSm.out _ ((Below.refl w11.heap.size w11).alloc (Nat.le_refl _) _)).mono ?_
        rintro e w12 ⟨rfl, hb12⟩
        have hbz := (HB11.out.alloc HB11.out.size (.cells #[.int .i64 0, .string ⟨#[]⟩, .bool false, .bool false, .int .i64 0, .int .i64 0, .int .i64 0, .int .i64 0, .slice none 0 0, .slice none 0 0, .int .i64 0] 43))
        have HB12 := hid (hbz.trans (hb12.mono hbz.size))
        clear hb12 hbz
        go_wp2_with fail
        go_ret
        exact ⟨rfl, HO.out.trans (HB12.out.mono HO.out.size)⟩
      · unfold PasteR at HP1 HP2
        dsimp only at HP1 HP2
        go_wp2_with fail
        refine (HP1.out w8 HB8.out).mono ?_
        rintro e w9 ⟨a9, c9, rfl, hS9, hb9⟩
        have hbp := (Below.refl w8.heap.size w8).alloc (Nat.le_refl _) (.cells #[.string a] 9)
        have hb89 := hbp.trans (hb9.mono hbp.size)
        have hbX := (Below.refl w9.heap.size w9).alloc (Nat.le_refl _) (.cells #[.int .i64 t.kind, .string ab, .bool false, .bool false, .int .i64 0, .int .i64 0, .int .i64 0, .int .i64 0, .slice a9 hs.length c9, .slice none 0 0, .int .i64 1] 43)
        have HB10 := hid ((HB8.out.trans (hb89.mono HB8.out.size)).trans (hbX.mono (HB8.out.trans (hb89.mono HB8.out.size)).size))
        have HX10 := hid (heap_alloc_new w9 (.cells #[.int .i64 t.kind, .string ab, .bool false, .bool false, .int .i64 0, .int .i64 0, .int .i64 0, .int .i64 0, .slice a9 hs.length c9, .slice none 0 0, .int .i64 1] 43))
        have HS10 := hid (hS9.below hbX)
        clear hS9
        clear hbp hb89 hbX hb9
        go_wp2_with fail
        have hsz10 : (w9.alloc (.cells #[.int .i64 t.kind, .string ab, .bool false, .bool false, .int .i64 0, .int .i64 0, .int .i64 0, .int .i64 0, .slice a9 hs.length c9, .slice none 0 0, .int .i64 1] 43)).heap.size = w9.heap.size + 1 := by simp
        generalize w9.alloc (.cells #[.int .i64 t.kind, .string ab, .bool false, .bool false, .int .i64 0, .int .i64 0, .int .i64 0, .int .i64 0, .slice a9 hs.length c9, .slice none 0 0, .int .i64 1] 43) = w10 at *
        generalize w9.heap.size = X1 at *
        have HP2' := hid (HP2.out w10 HB10.out)
        rw [hsz10] at HP2'
        clear hsz10
        refine HP2'.out.mono ?_
        rintro e w11 ⟨a11, c11, rfl, hS11, hb11⟩
        have hbp := (Below.refl w10.heap.size w10).alloc (Nat.le_refl _) (.cells #[.string a] 9)
        have hb1011 := hbp.trans (hb11.mono hbp.size)
        have HB11 := hid (HB10.out.trans (hb1011.mono HB10.out.size))
        have HX11 := hid ((hb1011.block _ (lt_of_block HX10.out)).trans HX10.out)
        have HSa := hid (HS10.out.below hb1011)
        have HSm := hid (fun W (hb : Below w11.heap.size w11 W) => SameTokG t.kind ab false false 0 0 0 0 1 a9 a11 c9 c11 hs W (HSa.out.below hb) (hS11.below hb) HHl.out)
        clear hS11
        clear hbp hb1011 hb11
        obtain ⟨⟨x0, x1, x2, x3, x4, x5, x6, x7, x8, x9, x10⟩, _⟩ := tok_block HX11.out
        have hX1 := lt_of_block HX11.out
        have hX2 : X1 ≠ w11.heap.size := by omega
        go_wp2_with fail
        refine (HSm.out _ ((Below.refl w11.heap.size w11).alloc (Nat.le_refl _) _)).mono ?_
        rintro e w12 ⟨rfl, hb12⟩
        have hbz := (HB11.out.alloc HB11.out.size (.cells #[.int .i64 t.kind, .string ab, .bool false, .bool false, .int .i64 0, .int .i64 0, .int .i64 0, .int .i64 0, .slice a11 hs.length c11, .slice none 0 0, .int .i64 1] 43))
        have HB12 := hid (hbz.trans (hb12.mono hbz.size))
        clear hb12 hbz
        go_wp2_with fail
        go_ret
        exact ⟨rfl, HO.out.trans (HB12.out.mono HO.out.size)⟩
end Go.Proofs.YtedmcefckcmheaaGreatDoor
