/- Walks of stands, and of the document's own Begins: whether a call's name stands where it says. -/
import Derived.Test.YtdkkdkdddfihpaaOrC
namespace Go.Proofs.Ytdkkdkdddfihpaa
open Go.RowKit Go.Shelf

/-- Whether a call's name stands where it says. -/
def begP (fs : List Sr) (c : Cl) : Bool := match behindP fs c.file c.lo with
  | some r => !(c.name.toList == []) && c.name.data.toList.isPrefixOf (textL r.data.toList)
  | none => false
def standsP (fs : List Sr) (c : Cl) : Bool := (c.file == -1) || begP fs c
def StandsPost (r : Bool) (w : World) (e : Ending) (w' : World) : Prop := e = .returned (.bool r) ∧ Below w.heap.size w w'

set_option maxRecDepth 100000 in
set_option maxHeartbeats 2000000 in
theorem stands_any (a : Option Addr) (cap : Nat) (fs : List Sr) (c : Cl) (w : World) (hF : FlAt w a fs) :
    Calls Try.prog 15 #[.slice a fs.length cap, aggC c] w (StandsPost (standsP fs c) w) := by
  have HBh := hid (fun w h => behind_any a cap fs c.file c.lo w h)
  have HB0 := hid (fun o => hF.below ((Below.refl w.heap.size w).alloc (Nat.le_refl _) o))
  have HA := hid (fun o => (Below.refl w.heap.size w).alloc (Nat.le_refl _) o)
  clear hF
  unfold aggC standsP begP
  obtain ⟨name, file, lo⟩ := c
  dsimp only at *
  by_cases h1 : file = -1
  · subst h1
    rw [show ((-1 : Int) == -1) = true from rfl, Bool.true_or]
    go_enter Try.func15, Try.ntmps15
    go_wp2_with fail
    go_ret
    exact ⟨rfl, HA.out _⟩
  have hf : (file == -1) = false := by rw [beq_eq_false_iff_ne]; exact h1
  rw [hf, Bool.false_or]
  rcases hr : behindP fs file lo with _ | r
  · rw [hr] at HBh
    clear hr
    go_enter Try.func15, Try.ntmps15
    go_wp2_with (go_at_call 12; refine (HBh.out _ (HB0.out _)).mono ?_; rintro e w' ⟨rfl, hww⟩; subst w')
    go_ret
    exact ⟨rfl, HA.out _⟩
  · rw [hr] at HBh
    clear hr
    dsimp only
    rcases hn : (name.toList == []) with _ | _
    · have HK := hid (fun w => Begins_any r name w)
      rw [Bool.not_false, Bool.true_and]
      generalize name.data.toList.isPrefixOf (textL r.data.toList) = R at HK ⊢
      go_enter Try.func15, Try.ntmps15
      go_wp2_with (first | (go_at_call 12; refine (HBh.out _ (HB0.out _)).mono ?_; rintro e w' ⟨rfl, hww⟩; subst w') | (go_at_call 21; refine (HK.out _).mono ?_; rintro e w1 ⟨rfl, hb1⟩))
      go_ret
      exact ⟨rfl, (HA.out _).trans (hb1.mono (HA.out _).size)⟩
    · rw [Bool.not_true, Bool.false_and]
      go_enter Try.func15, Try.ntmps15
      go_wp2_with (go_at_call 12; refine (HBh.out _ (HB0.out _)).mono ?_; rintro e w' ⟨rfl, hww⟩; subst w')
      go_ret
      exact ⟨rfl, HA.out _⟩

theorem begP_none (fs : List Sr) (c : Cl) (h : c.file < 0 ∨ (fs.length : Int) ≤ c.file ∨ c.lo < 0) : begP fs c = false := by
  unfold begP; rw [behindP_none fs _ _ h]
theorem begP_far (fs : List Sr) (c : Cl) (k n : Nat) (x : Sr) (hk : c.file = k) (hn : c.lo = n) (hx : fs[k]? = some x) (h : (x.2.size : Int) < n) : begP fs c = false := by
  unfold begP; rw [hk, hn, behindP_far fs k n x hx h]
theorem begP_some (fs : List Sr) (c : Cl) (k n : Nat) (x : Sr) (hk : c.file = k) (hn : c.lo = n) (hx : fs[k]? = some x) (h : n ≤ x.2.size) : begP fs c = (!(c.name.toList == []) && c.name.data.toList.isPrefixOf (textL (x.2.extract n x.2.size).data.toList)) := by
  unfold begP; rw [hk, hn, behindP_some fs k n x hx h]
theorem pre_long (n s : ByteArray) (_h : n.size ≤ s.size) : ((s.extract 0 n.size).toList == n.toList) = n.data.toList.isPrefixOf s.data.toList := by
  refine bool_ext ?_
  rw [prefix_iff, beq_iff_eq, toList_data, toList_data, extract_data, size_list, List.drop_zero]
theorem pre_short (n s : ByteArray) (h : s.size < n.size) : n.data.toList.isPrefixOf s.data.toList = false := by
  rw [Bool.eq_false_iff]
  intro h2
  rw [prefix_iff] at h2
  have := congrArg List.length h2
  rw [List.length_take, size_list, size_list] at this
  omega

set_option maxRecDepth 100000 in
set_option maxHeartbeats 2000000 in
theorem RBegins_any (a : Option Addr) (cap : Nat) (fs : List Sr) (c : Cl) (w : World) (hF : FlAt w a fs) (hS : Short fs) (hfl : fs.length ≤ 1048576) :
    Calls Try.prog 16 #[.slice a fs.length cap, aggC c] w (StandsPost (begP fs c) w) := by
  have HA := hid (fun o => (Below.refl w.heap.size w).alloc (Nat.le_refl _) o)
  have hfld := pick_field
  unfold aggC
  by_cases h1 : c.file < 0
  · rw [begP_none fs c (.inl h1)]
    obtain ⟨name, file, lo⟩ := c
    dsimp only at *
    clear hF hS
    generalize fs.length = N at *
    have d1 : decide (file < 0) = true := decide_eq_true h1
    go_enter Try.func16, Try.ntmps16
    go_wp2_with fail
    go_quiet (fail)
    go_wp2
    go_ret
    exact ⟨rfl, bel_drewN (HA.out _) _⟩
  by_cases h2 : (fs.length : Int) ≤ c.file
  · rw [begP_none fs c (.inr (.inl h2))]
    obtain ⟨name, file, lo⟩ := c
    dsimp only at *
    clear hF hS
    generalize fs.length = N at *
    have d1 : decide (file < 0) = false := decide_eq_false h1
    have d2 : decide ((N : Int) ≤ file) = true := decide_eq_true h2
    go_enter Try.func16, Try.ntmps16
    go_wp2_with fail
    go_quiet (fail)
    go_wp2
    go_ret
    exact ⟨rfl, bel_drewN (HA.out _) _⟩
  by_cases h3 : c.lo < 0
  · rw [begP_none fs c (.inr (.inr h3))]
    obtain ⟨name, file, lo⟩ := c
    dsimp only at *
    clear hF hS
    generalize fs.length = N at *
    have d1 : decide (file < 0) = false := decide_eq_false h1
    have d2 : decide ((N : Int) ≤ file) = false := decide_eq_false h2
    have d3 : decide (lo < 0) = true := decide_eq_true h3
    go_enter Try.func16, Try.ntmps16
    go_wp2_with fail
    go_quiet (fail)
    go_wp2
    go_ret
    exact ⟨rfl, bel_drewN (HA.out _) _⟩
  obtain ⟨k, hk⟩ : ∃ k : Nat, c.file = k := ⟨c.file.toNat, by omega⟩
  obtain ⟨n, hn⟩ : ∃ n : Nat, c.lo = n := ⟨c.lo.toNat, by omega⟩
  have hkl : k < fs.length := by omega
  have hx : fs[k]? = some fs[k] := List.getElem?_eq_getElem hkl
  rcases hF with rfl | ⟨b, off, rfl, hb, hc⟩
  · simp at hkl
  have hcc := (hc k _ hx).2
  have hbb : b ≠ w.heap.size := by omega
  clear hc
  by_cases h5 : (fs[k].2.size : Int) < (n : Int)
  · rw [begP_far fs c k n _ hk hn hx h5]
    obtain ⟨name, file, lo⟩ := c
    dsimp only at *
    clear hx hS
    generalize fs[k].2 = T at *
    generalize fs.length = N at *
    subst hk hn
    have d1 : decide ((k : Int) < 0) = false := decide_eq_false h1
    have d2 : decide ((N : Int) ≤ (k : Int)) = false := decide_eq_false h2
    have d3 : decide ((n : Int) < 0) = false := decide_eq_false h3
    have d5 : decide ((T.size : Int) < (n : Int)) = true := decide_eq_true h5
    have e2 : decide (N ≤ k) = false := decide_eq_false (by omega)
    have e5 : decide (T.size < n) = true := decide_eq_true (by omega)
    go_enter Try.func16, Try.ntmps16
    go_wp2_with fail
    go_quiet (fail)
    go_wp2
    go_ret
    exact ⟨rfl, bel_drewN (HA.out _) _⟩
  rw [begP_some fs c k n _ hk hn hx (by omega)]
  have HT := hid (fun w => RSplice_any (fs[k].2.extract n fs[k].2.size) w (sub_size _ _ _ (hS k _ hx)))
  have hsz := hS k _ hx
  obtain ⟨name, file, lo⟩ := c
  dsimp only at *
  clear hx hS
  generalize fs[k].2 = T at *
  generalize fs.length = N at *
  subst hk hn
  have d1 : decide ((k : Int) < 0) = false := decide_eq_false h1
  have d2 : decide ((N : Int) ≤ (k : Int)) = false := decide_eq_false h2
  have d3 : decide ((n : Int) < 0) = false := decide_eq_false h3
  have d5 : decide ((T.size : Int) < (n : Int)) = false := decide_eq_false h5
  have e2 : decide (N ≤ k) = false := decide_eq_false (by omega)
  have e5 : decide (T.size < n) = false := decide_eq_false (by omega)
  have hnt : n ≤ T.size := by omega
  clear h1 h2 h3 h5
  rcases hne : (name.toList == []) with _ | _
  · rw [Bool.not_false, Bool.true_and]
    have HX := hid (pre_long name (textB (T.extract n T.size)))
    have HY := hid (pre_short name (textB (T.extract n T.size)))
    have htz : (textB (T.extract n T.size)).size ≤ 1048576 := by
      rw [textB_size]
      have h1 := kept_few (T.extract n T.size).data.toList
      rw [size_list, ByteArray.size_extract] at h1
      omega
    rw [textB_list] at HX HY
    generalize name.data.toList.isPrefixOf (textL (T.extract n T.size).data.toList) = R at HX HY ⊢
    generalize (kept (T.extract n T.size).data.toList).length + 1 = kl at HT
    generalize atL (T.extract n T.size).data.toList = al at HT
    generalize textB (T.extract n T.size) = U at HX HY HT htz
    go_enter Try.func16, Try.ntmps16
    go_wp2_with fail
    go_quiet (fail)
    go_wp2_with fail
    have z0 := box_cell w #[.string name, .int .i64 (k : Int), .int .i64 (n : Int)] 36 nq 0 _ rfl
    have z1 := box_cell w #[.string name, .int .i64 (k : Int), .int .i64 (n : Int)] 36 nq 1 _ rfl
    have z2 := box_cell w #[.string name, .int .i64 (k : Int), .int .i64 (n : Int)] 36 nq 2 _ rfl
    have z3 := old_cell (.cells #[.string name, .int .i64 (k : Int), .int .i64 (n : Int)] 36) nq hcc
    have HB1 := hid (bel_drewN (HA.out (.cells #[.string name, .int .i64 (k : Int), .int .i64 (n : Int)] 36)) nq)
    generalize World.drewN (World.alloc w (.cells #[.string name, .int .i64 (k : Int), .int .i64 (n : Int)] 36)) nq = w1 at *
    have y0 := Later.cell z0
    have y1 := Later.cell z1
    have y2 := Later.cell z2
    have y3 := Later.cell z3
    have hnn : Nonempty (Later w1) := ⟨⟨_, Below.refl _ _⟩⟩
    clear z1 z2 z3 hcc HA hbb hb
    refine region_later_tail 9 (by kernel_rfl) (by kernel_rfl) ?_
    simp only [List.take_succ_cons, List.take_zero, List.drop_succ_cons, List.drop_zero]
    repeat (quiet_step (fail))
    refine wpQuiet_nil ?_
    intro p
    have HB2 := hid (HB1.out.trans (p.hb.mono HB1.out.size))
    have z0' := y0 p
    generalize p.W = w2 at HB2 z0' ⊢
    clear y0 y1 y2 y3 hnn z0
    go_wp2_with fail
    refine (HT.out w2).mono ?_
    rintro e w3 ⟨b', c', rfl, hI, hb3⟩
    have HB3 := hid (HB2.out.trans (hb3.mono HB2.out.size))
    have z0 := (hb3.cell (World.block_lt_of_cell? _ _ z0')).trans z0'
    clear hb3 z0' HB2
    go_wp2_with fail
    by_cases hu : name.size ≤ U.size
    · have f1 : decide ((name.size : Int) ≤ (U.size : Int)) = true := decide_eq_true (by omega)
      have f2 : decide (name.size ≤ U.size) = true := decide_eq_true hu
      have HX' := hid (HX.out hu)
      go_quiet (fail)
      go_wp2
      go_ret
      exact ⟨ret_bool HX'.out, bel_drewN HB3.out _⟩
    · have f1 : decide ((name.size : Int) ≤ (U.size : Int)) = false := decide_eq_false (by omega)
      have f2 : decide (name.size ≤ U.size) = false := decide_eq_false hu
      have HY' := hid (HY.out (by omega))
      go_quiet (fail)
      go_wp2
      go_ret
      exact ⟨ret_bool HY'.out.symm, bel_drewN HB3.out _⟩
  · rw [Bool.not_true, Bool.false_and]
    clear HT
    go_enter Try.func16, Try.ntmps16
    go_wp2_with fail
    go_quiet (fail)
    go_wp2
    go_ret
    exact ⟨rfl, bel_drewN (HA.out _) _⟩
end Go.Proofs.Ytdkkdkdddfihpaa
