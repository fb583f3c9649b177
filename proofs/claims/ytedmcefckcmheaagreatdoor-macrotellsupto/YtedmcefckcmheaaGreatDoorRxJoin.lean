/- Walks of the document's own SameToken, SameTokens, Sticks and Join. -/
import Derived.Test.YtedmcefckcmheaaGreatDoorTkAgg
import Derived.Test.YtedmcefckcmheaaGreatDoorLxJoin
import Derived.Test.YtedmcefckcmheaaGreatDoorLxStand
import Derived.Test.YtedmcefckcmheaaGreatDoorLxRef
namespace Go.Proofs.YtedmcefckcmheaaGreatDoor
open Go.RowKit Go.Shelf

/-- The document's own Tokens. -/
def RToks : Prop := ∀ (file : Int) (s : ByteArray) (w : World), Calls Tryz.prog 28 #[.int .i64 file, .string s] w (TokPost file s.data.toList w)

theorem toks_err (file : Int) (l : List UInt8) (h : (toksF file l).2.1 ≠ 0) : (toksF file l).1 = [] := by
  revert h
  unfold toksF
  split
  · exact fun _ => rfl
  · split
    · exact fun _ => rfl
    · exact fun h => absurd rfl h

set_option maxRecDepth 100000 in
set_option maxHeartbeats 1000000 in
theorem SameToken_any (t : Tk) (w : World) :
    Calls Tryz.prog 22 #[aggT t, aggT t] w fun e w' => e = .returned (.bool true) ∧ Below w.heap.size w w' := by
  obtain ⟨tk, tt, tsp, tfi, tf, tl, th, tn⟩ := t
  unfold aggT
  dsimp only
  go_enter Tryz.func22, Tryz.ntmps22
  go_wp2_with fail
  go_loop [89] (fun x => x = .int .i64 0) (fun _ => 0)
  case atStart => rfl
  case round =>
    subst hrel
    go_wp2_with fail
    go_loop [107] (fun x => x = .int .i64 0) (fun _ => 0)
    case atStart => rfl
    case round =>
      subst hrel
      go_wp2_with fail
      go_ret
      exact ⟨rfl, by repeat' (first | exact Below.refl _ _ | apply Below.drew | apply Below.alloc | simp)⟩

set_option maxRecDepth 100000 in
set_option maxHeartbeats 1000000 in
theorem SameTokens_any (a b : Option Addr) (ca cb : Nat) (ts : List Tk) (w : World) (hA : TAt w a ts) (hB : TAt w b ts) (hl : ts.length ≤ 1048576) :
    Calls Tryz.prog 34 #[.slice a ts.length ca, .slice b ts.length cb] w fun e w' => e = .returned (.bool true) ∧ Below w.heap.size w w' := by
  have HS := hid (fun t W => SameToken_any t W)
  unfold aggT at HS
  go_enter Tryz.func34, Tryz.ntmps34
  go_wp2_with fail
  go_loopw [13] (fun x wr => ∃ k : Nat, k ≤ ts.length ∧ x = .int .i64 k ∧ Hid (Below w.heap.size w wr)) (fun x _ => ts.length - (intOf x).toNat)
  case atStart => exact ⟨0, Nat.zero_le _, rfl, Below.refl _ _⟩
  case round =>
    obtain ⟨k, hk, rfl, HB'⟩ := hrel
    by_cases hlt : k < ts.length
    · rcases hA with h | ⟨ba, oa, rfl, hba, hca⟩
      · rw [h] at hlt; simp at hlt
      rcases hB with h | ⟨bb, ob, rfl, hbb, hcb⟩
      · rw [h] at hlt; simp at hlt
      have hxk : ts[k]? = some ts[k] := List.getElem?_eq_getElem hlt
      have hcx : ∀ i v, (encT ts[k])[i]? = some v → wr.cell? ⟨ba, oa + k * 11 + i, none⟩ = some v := fun i v hv => (HB'.out.cell (p := ⟨ba, _, none⟩) hba).trans (hca k _ hxk i v hv)
      have hcy : ∀ i v, (encT ts[k])[i]? = some v → wr.cell? ⟨bb, ob + k * 11 + i, none⟩ = some v := fun i v hv => (HB'.out.cell (p := ⟨bb, _, none⟩) hbb).trans (hcb k _ hxk i v hv)
      have HS2 := hid (fun p : Later wr => HS.out ts[k] p.W)
      generalize ts[k] = t at hcx hcy HS2
      obtain ⟨tk, tt, tsp, tfi, tf, tl, th, tn⟩ := t
      have c0 := hcx 0 _ rfl
      have c1 := hcx 1 _ rfl
      have c2 := hcx 2 _ rfl
      have c3 := hcx 3 _ rfl
      have c4 := hcx 4 _ rfl
      have c5 := hcx 5 _ rfl
      have c6 := hcx 6 _ rfl
      have c7 := hcx 7 _ rfl
      have c8 := hcx 8 _ rfl
      have c9 := hcx 9 _ rfl
      have c10 := hcx 10 _ rfl
      have d0 := hcy 0 _ rfl
      have d1 := hcy 1 _ rfl
      have d2 := hcy 2 _ rfl
      have d3 := hcy 3 _ rfl
      have d4 := hcy 4 _ rfl
      have d5 := hcy 5 _ rfl
      have d6 := hcy 6 _ rfl
      have d7 := hcy 7 _ rfl
      have d8 := hcy 8 _ rfl
      have d9 := hcy 9 _ rfl
      have d10 := hcy 10 _ rfl
      simp only [Nat.add_zero] at c0 d0
      clear hcx hcy hxk hca hcb
      have z0 := Later.cell c0
      have y0 := Later.cell d0
      have z1 := Later.cell c1
      have y1 := Later.cell d1
      have z2 := Later.cell c2
      have y2 := Later.cell d2
      have z3 := Later.cell c3
      have y3 := Later.cell d3
      have z4 := Later.cell c4
      have y4 := Later.cell d4
      have z5 := Later.cell c5
      have y5 := Later.cell d5
      have z6 := Later.cell c6
      have y6 := Later.cell d6
      have z7 := Later.cell c7
      have y7 := Later.cell d7
      have z8 := Later.cell c8
      have y8 := Later.cell d8
      have z9 := Later.cell c9
      have y9 := Later.cell d9
      have z10 := Later.cell c10
      have y10 := Later.cell d10
      have hnn : Nonempty (Later wr) := ⟨⟨_, Below.refl _ _⟩⟩
      have hki : (k : Int) < (ts.length : Int) := by omega
      have hk0 : (0 : Int) ≤ (k : Int) := by omega
      go_wp2_with fail
      refine region_later (by kernel_rfl) (by kernel_rfl) ?_
      repeat (first | go_big_quiet_step ((go_at_call 22; exact Calls.later (HS2.out _))) | quiet_step ((go_at_call 22; exact Calls.later (HS2.out _))))
      refine wpQuiet_nil ?_
      rintro _ ⟨p, rfl⟩
      have HBp := hid (HB'.out.trans (p.hb.mono HB'.out.size))
      clear z0 y0 z1 y1 z2 y2 z3 y3 z4 y4 z5 y5 z6 y6 z7 y7 z8 y8 z9 y9 z10 y10 hnn HS2
      go_wp2_with fail
      exact ⟨⟨k + 1, by omega, by go_num, HBp.out⟩, by simp [intOf]; omega⟩
    · go_wp2
      go_ret
      exact ⟨rfl, HB'.out⟩

end Go.Proofs.YtedmcefckcmheaaGreatDoor
