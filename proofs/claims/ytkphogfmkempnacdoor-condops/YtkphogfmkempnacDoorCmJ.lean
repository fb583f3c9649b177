/- Some texts in one. -/
import Derived.Test.YtkphogfmkempnacDoorCmH
import Derived.Test.YtkphogfmkempnacDoorCmI
import Derived.Maps.RangeWalk
import Derived.Maps.Own
import Derived.OpenShut
namespace Go.Proofs.YtkphogfmkempnacDoor
open Go.RowKit Go.Shelf

def opSigns : List (List UInt8) := [[43], [45], [42], [38], [124], [94], [61, 61], [33, 61], [60], [62], [60, 61], [62, 61], [38, 38], [124, 124], [47], [37]]
theorem pick_op : ∀ op ∈ opSigns, ∀ r, pick (sizes (op ++ 40 :: r) false) = (5, (op.length : Int)) ∧ blankSz (op ++ 40 :: r) = 0 := by
  have h1 : ∀ (c : UInt8) (r : List UInt8), letB c = false → nameSz (c :: r) = 0 := fun c r h => by simp [nameSz, byteAt, h]
  intro op hop r
  simp only [opSigns, List.mem_cons, List.not_mem_nil, or_false] at hop
  rcases hop with rfl | rfl | rfl | rfl | rfl | rfl | rfl | rfl | rfl | rfl | rfl | rfl | rfl | rfl | rfl | rfl
  all_goals
    constructor
    · simp only [List.cons_append, List.nil_append, sizes]
      rw [h1 _ _ (by decide)]
      simp [pick, numSz, startsNum, digB, quotSz, signSz, signsL, List.isPrefixOf]
    · simp [blankSz]
theorem op_level : ∀ op ∈ opSigns, 1 ≤ levelL op ∧ op ≠ [] ∧ op ≠ [35] ∧ op.length ≤ 2 ∧ (∀ c ∈ op, c ≠ 92 ∧ c ≠ 10) := by decide

theorem lit_first (n : Int) : ∃ r, litL n = 40 :: r := by
  unfold litL litW
  split
  · exact ⟨_, rfl⟩
  · exact ⟨_, rfl⟩
theorem ops_eval (a b : Int) (ha : IsInt a) (hb : IsInt b) (op : List UInt8) (hop : op ∈ opSigns) :
    (wrongL op b = 0 → evS (litL a ++ op ++ litL b) = (reckonL op a b, (0, -1, 0))) ∧ (wrongL op b ≠ 0 → (evS (litL a ++ op ++ litL b)).1 = 0 ∧ (evS (litL a ++ op ++ litL b)).2.1 = wrongL op b) := by
  obtain ⟨o1, o2, o3, o4, o5⟩ := op_level op hop
  have hf : litL a ++ op ++ litL b = flatW (litW false a ++ (⟨false, 5, op⟩ :: litW false b)) := by
    rw [flatW_append, flatW, flat_lit, flat_lit]
    simp
  have hokb : okW (litW false b) := by have := ok_lit false b [] trivial; rwa [List.append_nil] at this
  have hok : okW (litW false a ++ (⟨false, 5, op⟩ :: litW false b)) := by
    obtain ⟨r, hr⟩ := lit_first b
    have hp := pick_op op hop r
    rw [← hr] at hp
    exact ok_lit _ _ _ ⟨o2, o3, by simp, hp.2, hp.1, hokb⟩
  have la := lit_len a ha
  have lb := lit_len b hb
  obtain ⟨ts, he, ht⟩ := evS_words _ hok (fun c hc => by
    rw [← hf] at hc
    simp only [List.mem_append] at hc
    rcases hc with (hc | hc) | hc
    · exact lit_bytes a c hc
    · exact o5 c hc
    · exact lit_bytes b c hc) (by rw [← hf]; simp; omega)
  rw [hf, he]
  rw [List.map_append, List.map_cons] at ht
  have hlen : ts.length = (litW false a).length + 1 + (litW false b).length := by
    have := congrArg List.length ht
    simp at this
    omega
  have hx := lit_op (pre := []) false a ha (h := ht) true
  rw [List.length_nil, Nat.zero_add] at hx
  have hq : SgAt ts (litW false a).length op := SgAt.of ht (by
    have := at_app ((litW false a).map ktW) (ktW ⟨false, 5, op⟩ :: (litW false b).map ktW) 0
    rw [List.length_map, Nat.add_zero] at this
    rw [this]; rfl)
  have ht2 : ts.map ktT = ((litW false a).map ktW ++ [ktW ⟨false, 5, op⟩]) ++ ((litW false b).map ktW ++ []) := by rw [ht]; simp
  have hy := fun q => lit_op (pre := (litW false a).map ktW ++ [ktW ⟨false, 5, op⟩]) false b hb (h := ht2) q
  simp only [List.length_append, List.length_map, List.length_cons, List.length_nil, Nat.zero_add] at hy
  rw [← hlen] at hy
  exact whole_two hx hq o1 (hy _)
end Go.Proofs.YtkphogfmkempnacDoor
namespace Go.Proofs.YtkphogfmkempnacDoor
open Go.RowKit Go.Shelf Go.Maps Go.WideMaps

/-- All that a map holds is among these. -/
def HoldsL {H : Type} (L : List (List UInt8 × Int)) (D : DataW H) : Prop := Maps.IsMap D ∧ ∀ kl, Maps.has D kl = true → ∃ p ∈ L, kl = .string p.1 ∧ ∀ zd, D.atKey kl zd = .lit (.int .i64 p.2)
theorem HoldsL.none {H : Type} : HoldsL (H := H) [] (.map []) := ⟨⟨_, rfl⟩, fun kl h => by cases h⟩
theorem HoldsL.put {H : Type} {L : List (List UInt8 × Int)} {D : DataW H} (h : HoldsL L D) (s : List UInt8) (c : Int) : HoldsL ((s, c) :: L) (D.put (.string s) (.lit (.int .i64 c))) := by
  refine ⟨h.1.put _ _, fun kl hk => ?_⟩
  by_cases e : kl = .string s
  · subst e
    exact ⟨(s, c), List.mem_cons_self .., rfl, fun zd => Maps.atKey_put_same h.1 (show WideAt.IsKeyLit (.string s) from trivial) _ _⟩
  · rw [Maps.has_put_other e] at hk
    obtain ⟨p, h1, h2, h3⟩ := h.2 kl hk
    exact ⟨p, List.mem_cons_of_mem _ h1, h2, fun zd => by rw [Maps.atKey_put_other e]; exact h3 zd⟩

theorem strLaw : Keyed Tryd.prog 9 := string_keyed Tryd.underlying9
/-- A store into a map, at whatever stands around it. -/
theorem run_upd {H : Type} {w : World} {B n : Nat} {D : DataW H} {L : List (List UInt8 × Int)} {s : ByteArray} {c : Int} {α : Type} (G : Result α → Prop) (f : Unit → World → Result α) (hown : w.ownsMap Tryd.prog 9 (plainElem Tryd.prog 3) B n D) (hL : HoldsL L D) (hn : n < 1000) (hs : s.size ≤ 1000) (hc : IsInt c)
    (h : ∀ (w' : World) (D' : DataW H), w'.ownsMap Tryd.prog 9 (plainElem Tryd.prog 3) B (n + 1) D' → HoldsL ((s.data.toList, c) :: L) D' → w.grownBy w' (some B) → G (f () w')) :
    G (((Instr.mapUpdate 25 (.map (some B)) (.string s) (.int .i64 c)).run Tryd.prog w).andThen f) := by
  obtain ⟨w', hrun, r1, r2⟩ := hown.update strLaw Tryd.underlying25 (by unfold maxLen; omega) (keyOf_string_mk Tryd.underlying9 (s := s) (by unfold maxLen; omega)) (plainElem_int Tryd.underlying3 (WalkArith.wf_i64 hc))
  rw [hrun]
  exact h w' _ r1 (hL.put _ _) r2
theorem ranges_below {H : Type} {P : Program} {k : TypeId} {R : Value → Option (DataW H × List MemPlace)} {w w' : World} {b r n : Nat} {D : DataW H} {left : Lit → Bool} {cnt : Nat} (h : w.ranges P k R b r n D left cnt) (hb : Below w.heap.size w w') : w'.ranges P k R b r n D left cnt := by
  have h1 := h.owns.lt
  have h2 := h.lt
  obtain ⟨es, clock, since, seen, c0, hb', F, hs, hD, hr, rest⟩ := h
  exact ⟨es, clock, since, seen, c0, (hb.block b h1).trans hb', F, hs, hD, (hb.block r h2).trans hr, rest⟩

theorem one_any (x : Bool) (w : World) : Calls Tryd.prog 8 #[.bool x] w fun e w' => e = .returned (.int .i64 (truthI x)) ∧ w' = w := by
  cases x
  all_goals go_enter Tryd.func8, Tryd.ntmps8
  all_goals go_wp2
  all_goals go_ret
  all_goals exact ⟨rfl, rfl⟩

theorem int_truth (x : Bool) : IsInt (truthI x) := by cases x <;> (unfold IsInt; decide)
theorem int_wrap (x : Int) : IsInt (wrap64 x) := bounds_i64 (wrap64_wf x)
theorem int_bits (o : BinOp) (x y : Int) : IsInt (bits o .i64 x y) := bounds_i64 (wf_bits o .i64 x y)

/-- Each sign and what it comes to. -/
def opsL (a b : Int) : List (List UInt8 × Int) := [([124, 124], truthI true), ([38, 38], truthI (b != 0)), ([62, 61], truthI (decide (b ≤ a))), ([60, 61], truthI (decide (a ≤ b))), ([62], truthI (decide (b < a))), ([60], truthI (decide (a < b))), ([33, 61], truthI (a != b)), ([61, 61], truthI (a == b)), ([94], bits .xor .i64 a b), ([124], bits .or .i64 a b), ([38], bits .and .i64 a b), ([42], wrap64 (a * b)), ([45], wrap64 (a - b)), ([43], wrap64 (a + b))]
theorem ops_list (a b : Int) (ha : IsInt a) (hb : IsInt b) (hz : (a != 0) = true) : ∀ p ∈ opsL a b, p.1.length ≤ 2 ∧ evS (litL a ++ p.1 ++ litL b) = (p.2, (0, -1, 0)) := by
  intro p hp
  have hz' : (a == 0) = false := by simpa using hz
  have key : p.1 ∈ opSigns ∧ wrongL p.1 b = 0 ∧ reckonL p.1 a b = p.2 := by
    simp only [opsL, List.mem_cons, List.not_mem_nil, or_false] at hp
    rcases hp with rfl | rfl | rfl | rfl | rfl | rfl | rfl | rfl | rfl | rfl | rfl | rfl | rfl | rfl
    all_goals refine ⟨by simp [opSigns], rfl, ?_⟩
    · show truthI (!(a == 0) || !(b == 0)) = truthI true
      rw [hz']; rfl
    · show truthI (!(a == 0) && !(b == 0)) = truthI (b != 0)
      rw [hz']; rfl
    all_goals rfl
  obtain ⟨k1, k2, k3⟩ := key
  refine ⟨(op_level p.1 k1).2.2.2.1, ?_⟩
  rw [(ops_eval a b ha hb p.1 k1).1 k2, k3]

set_option maxRecDepth 100000 in
set_option maxHeartbeats 4000000 in
theorem Ops_yes (HR : RTok) (a b : Int) (ha : IsInt a) (hb : IsInt b) (hz : (a != 0) = true) (w : World) (hE : Ev w) (hP : Pw w) :
    Calls Tryd.prog 3 #[.int .i64 a, .int .i64 b] w fun e w' => e = .returned (.bool true) ∧ Below w.heap.size w w' := by
  have HV := hid (cdAlive_any HR w hE)
  have HLa := hid (fun W (h : Below w.heap.size w W) => lit_any a ha W (hP.below h))
  have HLb := hid (fun W (h : Below w.heap.size w W) => lit_any b hb W (hP.below h))
  have HA := hid (fun t W (h : Below w.heap.size w W) => ask_any HR t W (hE.below h))
  have H1 := hid (fun x W => one_any x W)
  have HQ := hid (ops_list a b ha hb hz)
  have H47 := hid (ops_eval a b ha hb [47] (by decide))
  have H37 := hid (ops_eval a b ha hb [37] (by decide))
  have la := lit_size a ha
  have lb := lit_size b hb
  have HX := hid (bytes_list (litL a))
  have HY := hid (bytes_list (litL b))
  generalize (⟨(litL a).toArray⟩ : ByteArray) = X at HLa la HX
  generalize (⟨(litL b).toArray⟩ : ByteArray) = Y at HLb lb HY
  have hmm := @run_makeMap Tryd.prog
  clear hE hP HR
  go_enter Tryd.func3, Tryd.ntmps3
  go_wp2_with fail
  refine HV.out.mono ?_
  rintro e w1 ⟨rfl, hb1⟩
  have HB1 := hid hb1
  clear hb1 HV
  go_wp2_with fail
  refine (HLa.out _ HB1.out).mono ?_
  rintro e w2 ⟨rfl, hb2⟩
  have HB2 := hid (HB1.out.trans (hb2.mono HB1.out.size))
  clear hb2 HLa HB1
  go_wp2_with fail
  refine (HLb.out _ HB2.out).mono ?_
  rintro e w3 ⟨rfl, hb3⟩
  have HB3 := hid (HB2.out.trans (hb3.mono HB2.out.size))
  clear hb3 HLb HB2
  have HO := hid (World.ownsMap_made (H := Unit) w3 Tryd.prog 9 (plainElem Tryd.prog 3))
  have HL := hid (HoldsL.none (H := Unit))
  have HB := hid (HB3.out.trans (((Below.refl _ w3).alloc (Nat.le_refl _) (.map #[] 0)).mono HB3.out.size))
  have HS := hid HB3.out.size
  clear HB3
  -- stores
  go_wp2_with (go_at_call 8; refine (H1.out _ _).mono ?_; rintro e w' ⟨rfl, hww⟩; subst w')
  refine run_upd (G := fun r => Oper.upon _ _ _ _ _ r) _ HO.out HL.out (by omega) (by decide) (by first | exact int_wrap _ | exact int_bits _ _ _ | exact int_truth _) ?_
  intro w4 D4 hO4 hL4 hg4
  have HO4 := hid hO4
  have HL4 := hid hL4
  have HB4 := hid (HB.out.grown hg4 HB.out.size (fun k hk => by cases hk; exact HS.out))
  clear hO4 hL4 hg4 HO HL HB
  go_wp2_with (go_at_call 8; refine (H1.out _ _).mono ?_; rintro e w' ⟨rfl, hww⟩; subst w')
  refine run_upd (G := fun r => Oper.upon _ _ _ _ _ r) _ HO4.out HL4.out (by omega) (by decide) (by first | exact int_wrap _ | exact int_bits _ _ _ | exact int_truth _) ?_
  intro w5 D5 hO5 hL5 hg5
  have HO5 := hid hO5
  have HL5 := hid hL5
  have HB5 := hid (HB4.out.grown hg5 HB4.out.size (fun k hk => by cases hk; exact HS.out))
  clear hO5 hL5 hg5 HO4 HL4 HB4
  go_wp2_with (go_at_call 8; refine (H1.out _ _).mono ?_; rintro e w' ⟨rfl, hww⟩; subst w')
  refine run_upd (G := fun r => Oper.upon _ _ _ _ _ r) _ HO5.out HL5.out (by omega) (by decide) (by first | exact int_wrap _ | exact int_bits _ _ _ | exact int_truth _) ?_
  intro w6 D6 hO6 hL6 hg6
  have HO6 := hid hO6
  have HL6 := hid hL6
  have HB6 := hid (HB5.out.grown hg6 HB5.out.size (fun k hk => by cases hk; exact HS.out))
  clear hO6 hL6 hg6 HO5 HL5 HB5
  go_wp2_with (go_at_call 8; refine (H1.out _ _).mono ?_; rintro e w' ⟨rfl, hww⟩; subst w')
  refine run_upd (G := fun r => Oper.upon _ _ _ _ _ r) _ HO6.out HL6.out (by omega) (by decide) (by first | exact int_wrap _ | exact int_bits _ _ _ | exact int_truth _) ?_
  intro w7 D7 hO7 hL7 hg7
  have HO7 := hid hO7
  have HL7 := hid hL7
  have HB7 := hid (HB6.out.grown hg7 HB6.out.size (fun k hk => by cases hk; exact HS.out))
  clear hO7 hL7 hg7 HO6 HL6 HB6
  go_wp2_with (go_at_call 8; refine (H1.out _ _).mono ?_; rintro e w' ⟨rfl, hww⟩; subst w')
  refine run_upd (G := fun r => Oper.upon _ _ _ _ _ r) _ HO7.out HL7.out (by omega) (by decide) (by first | exact int_wrap _ | exact int_bits _ _ _ | exact int_truth _) ?_
  intro w8 D8 hO8 hL8 hg8
  have HO8 := hid hO8
  have HL8 := hid hL8
  have HB8 := hid (HB7.out.grown hg8 HB7.out.size (fun k hk => by cases hk; exact HS.out))
  clear hO8 hL8 hg8 HO7 HL7 HB7
  go_wp2_with (go_at_call 8; refine (H1.out _ _).mono ?_; rintro e w' ⟨rfl, hww⟩; subst w')
  refine run_upd (G := fun r => Oper.upon _ _ _ _ _ r) _ HO8.out HL8.out (by omega) (by decide) (by first | exact int_wrap _ | exact int_bits _ _ _ | exact int_truth _) ?_
  intro w9 D9 hO9 hL9 hg9
  have HO9 := hid hO9
  have HL9 := hid hL9
  have HB9 := hid (HB8.out.grown hg9 HB8.out.size (fun k hk => by cases hk; exact HS.out))
  clear hO9 hL9 hg9 HO8 HL8 HB8
  go_wp2_with (go_at_call 8; refine (H1.out _ _).mono ?_; rintro e w' ⟨rfl, hww⟩; subst w')
  refine run_upd (G := fun r => Oper.upon _ _ _ _ _ r) _ HO9.out HL9.out (by omega) (by decide) (by first | exact int_wrap _ | exact int_bits _ _ _ | exact int_truth _) ?_
  intro w10 D10 hO10 hL10 hg10
  have HO10 := hid hO10
  have HL10 := hid hL10
  have HB10 := hid (HB9.out.grown hg10 HB9.out.size (fun k hk => by cases hk; exact HS.out))
  clear hO10 hL10 hg10 HO9 HL9 HB9
  go_wp2_with (go_at_call 8; refine (H1.out _ _).mono ?_; rintro e w' ⟨rfl, hww⟩; subst w')
  refine run_upd (G := fun r => Oper.upon _ _ _ _ _ r) _ HO10.out HL10.out (by omega) (by decide) (by first | exact int_wrap _ | exact int_bits _ _ _ | exact int_truth _) ?_
  intro w11 D11 hO11 hL11 hg11
  have HO11 := hid hO11
  have HL11 := hid hL11
  have HB11 := hid (HB10.out.grown hg11 HB10.out.size (fun k hk => by cases hk; exact HS.out))
  clear hO11 hL11 hg11 HO10 HL10 HB10
  go_wp2_with (go_at_call 8; refine (H1.out _ _).mono ?_; rintro e w' ⟨rfl, hww⟩; subst w')
  refine run_upd (G := fun r => Oper.upon _ _ _ _ _ r) _ HO11.out HL11.out (by omega) (by decide) (by first | exact int_wrap _ | exact int_bits _ _ _ | exact int_truth _) ?_
  intro w12 D12 hO12 hL12 hg12
  have HO12 := hid hO12
  have HL12 := hid hL12
  have HB12 := hid (HB11.out.grown hg12 HB11.out.size (fun k hk => by cases hk; exact HS.out))
  clear hO12 hL12 hg12 HO11 HL11 HB11
  go_wp2_with (go_at_call 8; refine (H1.out _ _).mono ?_; rintro e w' ⟨rfl, hww⟩; subst w')
  refine run_upd (G := fun r => Oper.upon _ _ _ _ _ r) _ HO12.out HL12.out (by omega) (by decide) (by first | exact int_wrap _ | exact int_bits _ _ _ | exact int_truth _) ?_
  intro w13 D13 hO13 hL13 hg13
  have HO13 := hid hO13
  have HL13 := hid hL13
  have HB13 := hid (HB12.out.grown hg13 HB12.out.size (fun k hk => by cases hk; exact HS.out))
  clear hO13 hL13 hg13 HO12 HL12 HB12
  go_wp2_with (go_at_call 8; refine (H1.out _ _).mono ?_; rintro e w' ⟨rfl, hww⟩; subst w')
  refine run_upd (G := fun r => Oper.upon _ _ _ _ _ r) _ HO13.out HL13.out (by omega) (by decide) (by first | exact int_wrap _ | exact int_bits _ _ _ | exact int_truth _) ?_
  intro w14 D14 hO14 hL14 hg14
  have HO14 := hid hO14
  have HL14 := hid hL14
  have HB14 := hid (HB13.out.grown hg14 HB13.out.size (fun k hk => by cases hk; exact HS.out))
  clear hO14 hL14 hg14 HO13 HL13 HB13
  go_wp2_with (go_at_call 8; refine (H1.out _ _).mono ?_; rintro e w' ⟨rfl, hww⟩; subst w')
  refine run_upd (G := fun r => Oper.upon _ _ _ _ _ r) _ HO14.out HL14.out (by omega) (by decide) (by first | exact int_wrap _ | exact int_bits _ _ _ | exact int_truth _) ?_
  intro w15 D15 hO15 hL15 hg15
  have HO15 := hid hO15
  have HL15 := hid hL15
  have HB15 := hid (HB14.out.grown hg15 HB14.out.size (fun k hk => by cases hk; exact HS.out))
  clear hO15 hL15 hg15 HO14 HL14 HB14
  go_wp2_with (go_at_call 8; refine (H1.out _ _).mono ?_; rintro e w' ⟨rfl, hww⟩; subst w')
  refine run_upd (G := fun r => Oper.upon _ _ _ _ _ r) _ HO15.out HL15.out (by omega) (by decide) (by first | exact int_wrap _ | exact int_bits _ _ _ | exact int_truth _) ?_
  intro w16 D16 hO16 hL16 hg16
  have HO16 := hid hO16
  have HL16 := hid hL16
  have HB16 := hid (HB15.out.grown hg16 HB15.out.size (fun k hk => by cases hk; exact HS.out))
  clear hO16 hL16 hg16 HO15 HL15 HB15
  go_wp2_with (go_at_call 8; refine (H1.out _ _).mono ?_; rintro e w' ⟨rfl, hww⟩; subst w')
  refine run_upd (G := fun r => Oper.upon _ _ _ _ _ r) _ HO16.out HL16.out (by omega) (by decide) (by first | exact int_wrap _ | exact int_bits _ _ _ | exact int_truth _) ?_
  intro w17 D17 hO17 hL17 hg17
  have HO17 := hid hO17
  have HL17 := hid hL17
  have HB17 := hid (HB16.out.grown hg17 HB16.out.size (fun k hk => by cases hk; exact HS.out))
  clear hO17 hL17 hg17 HO16 HL16 HB16
  -- stored
  go_wp2_with (first
    | (at_range; refine wpList_range_own _ rfl _ 25 rfl 9 3 strLaw Tryd.underlying25 _ w3.heap.size 14 D17 rfl HO17.out ?_; intro w18 hrg hg18 hs18)
    | go_in)
  have HB18 := hid (HB17.out.grown hg18 HB17.out.size (fun k hk => by cases hk))
  have HR0 := hid hrg
  have HS17 : Hid (w.heap.size ≤ w17.heap.size) := HB17.out.size
  have HLo : Hid (HoldsL (opsL a b) D17) := HL17.out
  clear hrg hg18 hs18 HL17 HO17 HB17
  go_loopw [9] (fun _ wr => ∃ (left : Lit → Bool) (cnt : Nat), Hid (wr.ranges Tryd.prog 9 (plainElem (H := Unit) Tryd.prog 3) w3.heap.size w17.heap.size 14 D17 left cnt) ∧ Hid (∀ kl, left kl = true → Maps.has D17 kl = true) ∧ Hid (Below w.heap.size w wr)) (fun _ wr => wr.rangeLeft w3.heap.size w17.heap.size)
  case atStart => exact ⟨_, _, HR0.out, fun _ h => h, HB18.out⟩
  case round =>
    obtain ⟨left, cnt, HRg, HLf, HBr⟩ := hrel
    go_wp2_with (first
      | (at_next; refine wpList_next_ranges _ rfl _ rfl 9 strLaw (plainElem (H := Unit) Tryd.prog 3) Value.string (Value.int .i64) (fun key kl h => by obtain ⟨x, rfl, _⟩ := string_of_keyOf Tryd.underlying9 h; exact ⟨x, rfl⟩) (fun v y h => by obtain ⟨c, rfl, _⟩ := plainElem_int_inv Tryd.underlying3 h; exact ⟨c, rfl⟩) w3.heap.size w17.heap.size 14 _ _ _ rfl HRg.out ?_ ?_)
      | go_in)
    · intro hc0 hl0
      clear HRg HLf HQ HLo hl0 hc0
      have HBs := hid (HBr.out.trans (((Below.refl _ wr).alloc (Nat.le_refl _) (.cells #[.string ⟨#[47]⟩, .string ⟨#[37]⟩] 9)).mono HBr.out.size))
      have HC0 : Hid ((wr.alloc (.cells #[.string ⟨#[47]⟩, .string ⟨#[37]⟩] 9)).heap[wr.heap.size]? = some (.cells #[.string ⟨#[47]⟩, .string ⟨#[37]⟩] 9)) := heap_alloc_new wr _
      go_wp2_with fail
      generalize wr.alloc (.cells #[.string ⟨#[47]⟩, .string ⟨#[37]⟩] 9) = ws at HBs HC0
      generalize wr.heap.size = B2 at HC0
      go_loopw [115] (fun x wq => ∃ k : Nat, k ≤ 2 ∧ x = .int .i64 k ∧ Hid (Below ws.heap.size ws wq)) (fun x _ => 2 - (intOf x).toNat)
      case atStart => exact ⟨0, by omega, rfl, Below.refl _ _⟩
      case round =>
        obtain ⟨k, hk, rfl, HBk⟩ := hrel
        have HBq := hid (HBs.out.trans (HBk.out.mono HBs.out.size))
        have hblk := (HBk.out.block B2 (lt_of_block HC0.out)).trans HC0.out
        obtain ⟨s0, _⟩ := block_facts hblk 0
        obtain ⟨s1, _⟩ := block_facts hblk 1
        simp at s0 s1
        clear hblk
        have hk3 : k = 0 ∨ k = 1 ∨ k = 2 := by omega
        clear hk
        rcases hk3 with rfl | rfl | rfl
        · clear s1
          have hc1 : ∀ W : World, (Op.stringOp .add X ⟨#[47]⟩).run Tryd.prog W = .ok (.string (X ++ ⟨#[47]⟩)) W := fun W => by
            rw [run_string_add_sum W _ _ (by show _ + 1 ≤ _; omega)]
          have hc2 : ∀ W : World, (Op.stringOp .add (X ++ (⟨#[47]⟩ : ByteArray)) Y).run Tryd.prog W = .ok (.string (X ++ ⟨#[47]⟩ ++ Y)) W := fun W => by
            rw [run_string_add_sum W _ _ (by rw [ByteArray.size_append]; show _ + 1 + _ ≤ _; omega)]
          have HE := hid (HA.out (X ++ (⟨#[47]⟩ : ByteArray) ++ Y) wr HBq.out)
          have hdl : (X ++ (⟨#[47]⟩ : ByteArray) ++ Y).data.toList = litL a ++ [47] ++ litL b := by
            rw [ByteArray.data_append, ByteArray.data_append, Array.toList_append, Array.toList_append, HX.out, HY.out]
          rw [hdl] at HE
          generalize evS (litL a ++ [47] ++ litL b) = R at HE H47
          obtain ⟨m, g0, g1, g2⟩ := R
          dsimp only at HE H47
          generalize X ++ (⟨#[47]⟩ : ByteArray) ++ Y = T at HE hc2
          generalize X ++ (⟨#[47]⟩ : ByteArray) = U at hc1 hc2
          clear hdl
          go_wp2_with fail
          refine HE.out.mono ?_
          rintro e wm ⟨rfl, hbm⟩
          have hbn := (Below.refl _ wm).alloc (Nat.le_refl _) (.cells #[.int .i64 g0, .int .i64 g1, .int .i64 g2] 28)
          have HK := hid (HBk.out.trans ((hbm.trans (hbn.mono hbm.size)).mono HBk.out.size))
          clear hbm hbn HE
          by_cases hb0 : b = 0
          · obtain ⟨r1, r2⟩ := H47.out.2 (by rw [hb0]; decide)
            rw [show wrongL [47] b = 13 by rw [hb0]; rfl] at r2
            subst r1 r2
            have z0 : (b == 0) = true := by simpa using hb0
            clear hb0 H47 HA
            go_wp2_with fail
            exact ⟨⟨1, by omega, rfl, HK.out⟩, by simp [intOf]⟩
          have r0 := H47.out.1 (show wrongL [47] b = 0 from if_neg hb0)
          have r1 : m = reckonL [47] a b := congrArg (·.1) r0
          have r2 : g0 = 0 := congrArg (·.2.1) r0
          subst r2
          have z0 : (b == 0) = false := by simpa using hb0
          clear r0 H47 HA
          by_cases hb1 : b = -1
          · have z1 : (b == -1) = true := by simpa using hb1
            have r3 : m = wrap64 (0 - a) := by rw [r1, hb1]; show wrap64 (a.tdiv (-1)) = _; rw [Int.tdiv_neg, Int.tdiv_one, Int.zero_sub]
            subst r3
            clear r1 hb1 hb0
            go_wp2_with fail
            exact ⟨⟨1, by omega, rfl, HK.out⟩, by simp [intOf]⟩
          · have z1 : (b == -1) = false := by simpa using hb1
            have r3 : m = wrap64 (a.tdiv b) := r1
            subst r3
            clear r1
            go_wp2_with fail
            exact ⟨⟨1, by omega, rfl, HK.out⟩, by simp [intOf]⟩
        · clear s0
          have hc1 : ∀ W : World, (Op.stringOp .add X ⟨#[37]⟩).run Tryd.prog W = .ok (.string (X ++ ⟨#[37]⟩)) W := fun W => by
            rw [run_string_add_sum W _ _ (by show _ + 1 ≤ _; omega)]
          have hc2 : ∀ W : World, (Op.stringOp .add (X ++ (⟨#[37]⟩ : ByteArray)) Y).run Tryd.prog W = .ok (.string (X ++ ⟨#[37]⟩ ++ Y)) W := fun W => by
            rw [run_string_add_sum W _ _ (by rw [ByteArray.size_append]; show _ + 1 + _ ≤ _; omega)]
          have HE := hid (HA.out (X ++ (⟨#[37]⟩ : ByteArray) ++ Y) wr HBq.out)
          have hdl : (X ++ (⟨#[37]⟩ : ByteArray) ++ Y).data.toList = litL a ++ [37] ++ litL b := by
            rw [ByteArray.data_append, ByteArray.data_append, Array.toList_append, Array.toList_append, HX.out, HY.out]
          rw [hdl] at HE
          generalize evS (litL a ++ [37] ++ litL b) = R at HE H37
          obtain ⟨m, g0, g1, g2⟩ := R
          dsimp only at HE H37
          generalize X ++ (⟨#[37]⟩ : ByteArray) ++ Y = T at HE hc2
          generalize X ++ (⟨#[37]⟩ : ByteArray) = U at hc1 hc2
          clear hdl
          go_wp2_with fail
          refine HE.out.mono ?_
          rintro e wm ⟨rfl, hbm⟩
          have hbn := (Below.refl _ wm).alloc (Nat.le_refl _) (.cells #[.int .i64 g0, .int .i64 g1, .int .i64 g2] 28)
          have HK := hid (HBk.out.trans ((hbm.trans (hbn.mono hbm.size)).mono HBk.out.size))
          clear hbm hbn HE
          by_cases hb0 : b = 0
          · obtain ⟨r1, r2⟩ := H37.out.2 (by rw [hb0]; decide)
            rw [show wrongL [37] b = 13 by rw [hb0]; rfl] at r2
            subst r1 r2
            have z0 : (b == 0) = true := by simpa using hb0
            clear hb0 H37 HA
            go_wp2_with fail
            exact ⟨⟨2, by omega, rfl, HK.out⟩, by simp [intOf]⟩
          have r0 := H37.out.1 (show wrongL [37] b = 0 from if_neg hb0)
          have r1 : m = reckonL [37] a b := congrArg (·.1) r0
          have r2 : g0 = 0 := congrArg (·.2.1) r0
          subst r2
          have z0 : (b == 0) = false := by simpa using hb0
          clear r0 H37 HA
          by_cases hb1 : b = -1
          · have z1 : (b == -1) = true := by simpa using hb1
            have r3 : m = 0 := by rw [r1, hb1]; show a.tmod (-1) = 0; rw [Int.tmod_neg, Int.tmod_one]
            subst r3
            clear r1 hb1 hb0
            go_wp2_with fail
            exact ⟨⟨2, by omega, rfl, HK.out⟩, by simp [intOf]⟩
          · have z1 : (b == -1) = false := by simpa using hb1
            have r3 : m = a.tmod b := r1
            subst r3
            clear r1
            go_wp2_with fail
            exact ⟨⟨2, by omega, rfl, HK.out⟩, by simp [intOf]⟩
        · go_wp2_with fail
          go_ret
          exact ⟨rfl, HBq.out⟩
    · intro s c kl yd yp wn cnt1 hkey hlx hv hat hrg1 hlt1 hg1 hs1 hen
      obtain ⟨s', e1, e2, _⟩ := string_of_keyOf Tryd.underlying9 hkey
      cases e1
      obtain ⟨c', e3, e4, _⟩ := plainElem_int_inv Tryd.underlying3 hv
      cases e3
      obtain ⟨p, hp, hk1, hk2⟩ := HLo.out.2 kl (HLf.out kl hlx)
      have hcv : p.2 = c := by
        have := hk2 (.lit (.bool true))
        rw [hat] at this
        cases e4
        injection this with h1
        injection h1 with _ h2
        exact h2.symm
      have hsv : s.data.toList = p.1 := by
        rw [e2] at hk1
        injection hk1
      obtain ⟨q1, q2⟩ := HQ.out p hp
      rw [← hsv, hcv] at q2
      rw [← hsv, size_data] at q1
      have HBn := hid (HBr.out.grown hg1 HBr.out.size (fun k hk => by cases hk; exact HS17.out))
      have HRn := hid hrg1
      have HMn := hid hlt1
      have HE := hid (HA.out (X ++ s ++ Y) wn HBn.out)
      have hdl : (X ++ s ++ Y).data.toList = litL a ++ s.data.toList ++ litL b := by
        rw [ByteArray.data_append, ByteArray.data_append, Array.toList_append, Array.toList_append, HX.out, HY.out]
      rw [hdl, q2] at HE
      dsimp only at HE
      have hc1 : ∀ W : World, (Op.stringOp .add X s).run Tryd.prog W = .ok (.string (X ++ s)) W := fun W => by
        rw [run_string_add_sum W _ _ (by omega)]
      have hc2 : ∀ W : World, (Op.stringOp .add (X ++ s) Y).run Tryd.prog W = .ok (.string (X ++ s ++ Y)) W := fun W => by
        rw [run_string_add_sum W _ _ (by rw [ByteArray.size_append]; omega)]
      generalize X ++ s ++ Y = T at HE hc2
      generalize X ++ s = U at hc1 hc2
      have HLn : Hid (∀ z, (left z && !z.sameKey kl) = true → Maps.has D17 z = true) := fun z h => HLf.out z (by simp only [Bool.and_eq_true] at h; exact h.1)
      clear hkey hlx hv hat hrg1 hlt1 hg1 hs1 e2 e4 hp hk1 hk2 hcv hsv q1 q2 hdl
      go_wp2_with fail
      refine HE.out.mono ?_
      rintro e wm ⟨rfl, hbm⟩
      have hbn := (Below.refl _ wm).alloc (Nat.le_refl _) (.cells #[.int .i64 0, .int .i64 (-1), .int .i64 0] 28)
      have HBm := hid (HBn.out.trans ((hbm.trans (hbn.mono hbm.size)).mono HBn.out.size))
      have HRm := hid (ranges_below (ranges_below HRn.out hbm) hbn)
      have e0 : (c != c) = false := by simp
      clear hbm hbn HE
      go_wp2_with fail
      exact ⟨⟨_, cnt1, HRm.out, HLn.out, HBm.out⟩, by rw [HRm.out.left_eq, HRg.out.left_eq]; exact HMn.out⟩
end Go.Proofs.YtkphogfmkempnacDoor
