/- Walk of the document's own Span. -/
import Derived.Test.YtdkkdkdddfihpaaOrB
import Derived.BigQuiet
import Derived.Test.YtdkkdkdddfihpaaLaterTail
namespace Go.Proofs.Ytdkkdkdddfihpaa
open Go.RowKit Go.Shelf

abbrev boxO (t : Ov) : Obj := .cells #[.int .i64 t.kind, .string t.text, .bool t.space, .bool t.first, .int .i64 t.file, .int .i64 t.lo, .int .i64 t.hi, .int .i64 t.line, .slice t.ha t.hn t.hc, .slice t.ca t.calls.length t.cc, .int .i64 t.made] 29
theorem drewN_cell (w : World) (p : Addr) : ∀ n, (w.drewN n).cell? p = w.cell? p
  | 0 => rfl
  | n + 1 => by exact drewN_cell w p n
theorem box_cell (w : World) (o : Array Value) (T : TypeId) (n i : Nat) (v : Value) (h : o[i]? = some v) : ((w.alloc (.cells o T)).drewN n).cell? ⟨w.heap.size, i, none⟩ = some v := by
  rw [drewN_cell, World.cell?_alloc_mark]
  exact h
theorem old_cell {w : World} {p : Addr} {v : Value} (o : Obj) (n : Nat) (h : w.cell? p = some v) : ((w.alloc o).drewN n).cell? p = some v := by
  rw [drewN_cell]
  exact (((Below.refl w.heap.size w).alloc (Nat.le_refl _) o).cell (World.block_lt_of_cell? _ _ h)).trans h

theorem spanP_none (fs : List Sr) (t : Ov) (h : t.made ≠ 0 ∨ t.file < 0 ∨ (fs.length : Int) ≤ t.file ∨ t.lo < 0 ∨ t.hi < t.lo) : spanP fs t = none := by
  unfold spanP
  rcases h with h | h | h | h | h
  · split
    · rw [if_neg (fun h2 => h h2.1)]
    · rfl
  · rw [behindP_none fs _ _ (.inl h)]
  · rw [behindP_none fs _ _ (.inr (.inl h))]
  · rw [behindP_none fs _ _ (.inr (.inr h))]
  · split
    · rw [if_neg (by omega)]
    · rfl
theorem spanP_far (fs : List Sr) (t : Ov) (k n : Nat) (x : Sr) (hk : t.file = k) (hn : t.lo = n) (hx : fs[k]? = some x) (h : (x.2.size : Int) < t.hi) : spanP fs t = none := by
  unfold spanP
  rw [hk, hn]
  by_cases hnx : n ≤ x.2.size
  · rw [behindP_some fs k n x hx hnx]
    dsimp only
    rw [if_neg]
    rintro ⟨_, _, h3⟩
    rw [ByteArray.size_extract] at h3
    omega
  · rw [behindP_far fs k n x hx (by omega)]
theorem spanP_some (fs : List Sr) (t : Ov) (k n m : Nat) (x : Sr) (hk : t.file = k) (hn : t.lo = n) (hm : t.hi = m) (hx : fs[k]? = some x) (h0 : t.made = 0) (h1 : n ≤ m) (h2 : m ≤ x.2.size) : spanP fs t = some (textB (x.2.extract n m)) := by
  unfold spanP
  rw [hk, hn, behindP_some fs k n x hx (by omega)]
  dsimp only
  rw [if_pos ⟨h0, by omega, by rw [ByteArray.size_extract]; omega⟩, hm, show ((m : Int) - (n : Int)).toNat = m - n by omega]
  congr 2
  rw [ByteArray.extract_extract]
  congr 1
  omega

set_option maxRecDepth 100000 in
set_option maxHeartbeats 2000000 in
theorem RSpan_any (a : Option Addr) (cap : Nat) (fs : List Sr) (t : Ov) (w : World) (hF : FlAt w a fs) (hS : Short fs) (hfl : fs.length ≤ 1048576) :
    Calls Try.prog 5 #[.slice a fs.length cap, aggO t] w (SpanPost (spanP fs t) w) := by
  have HA := hid (fun o => (Below.refl w.heap.size w).alloc (Nat.le_refl _) o)
  have hfld := pick_field
  unfold aggO
  by_cases h0 : ¬ t.made = 0
  · rw [spanP_none fs t (.inl h0)]
    obtain ⟨kind, text, space, first, file, lo, hi, line, ha, hn, hc, ca, cc, calls, made⟩ := t
    dsimp only at *
    have hd0 : decide (made = 0) = false := decide_eq_false h0
    have hd1 : (made == 0) = false := by rw [beq_eq_false_iff_ne]; exact h0
    have hd2 : (made != 0) = true := by rw [bne_iff_ne]; exact h0
    clear hF hS
    go_enter Try.func5, Try.ntmps5
    go_wp2_with fail
    go_quiet (fail)
    go_wp2
    go_ret2
    exact ⟨rfl, bel_drewN (HA.out _) _⟩
  replace h0 : t.made = 0 := Classical.not_not.1 h0
  by_cases h1 : t.file < 0
  · rw [spanP_none fs t (.inr (.inl h1))]
    obtain ⟨kind, text, space, first, file, lo, hi, line, ha, hn, hc, ca, cc, calls, made⟩ := t
    dsimp only at *
    subst h0
    clear hF hS
    generalize fs.length = N at *
    have d1 : decide (file < 0) = true := by exact decide_eq_true h1
    go_enter Try.func5, Try.ntmps5
    go_wp2_with fail
    go_quiet (fail)
    go_wp2
    go_ret2
    exact ⟨rfl, bel_drewN (HA.out _) _⟩
  by_cases h2 : (fs.length : Int) ≤ t.file
  · rw [spanP_none fs t (.inr (.inr (.inl h2)))]
    obtain ⟨kind, text, space, first, file, lo, hi, line, ha, hn, hc, ca, cc, calls, made⟩ := t
    dsimp only at *
    subst h0
    clear hF hS
    generalize fs.length = N at *
    have d1 : decide (file < 0) = false := by exact decide_eq_false h1
    have d2 : decide ((N : Int) ≤ file) = true := by exact decide_eq_true h2
    go_enter Try.func5, Try.ntmps5
    go_wp2_with fail
    go_quiet (fail)
    go_wp2
    go_ret2
    exact ⟨rfl, bel_drewN (HA.out _) _⟩
  by_cases h3 : t.lo < 0
  · rw [spanP_none fs t (.inr (.inr (.inr (.inl h3))))]
    obtain ⟨kind, text, space, first, file, lo, hi, line, ha, hn, hc, ca, cc, calls, made⟩ := t
    dsimp only at *
    subst h0
    clear hF hS
    generalize fs.length = N at *
    have d1 : decide (file < 0) = false := by exact decide_eq_false h1
    have d2 : decide ((N : Int) ≤ file) = false := by exact decide_eq_false h2
    have d3 : decide (lo < 0) = true := by exact decide_eq_true h3
    go_enter Try.func5, Try.ntmps5
    go_wp2_with fail
    go_quiet (fail)
    go_wp2
    go_ret2
    exact ⟨rfl, bel_drewN (HA.out _) _⟩
  by_cases h4 : t.hi < t.lo
  · rw [spanP_none fs t (.inr (.inr (.inr (.inr h4))))]
    obtain ⟨kind, text, space, first, file, lo, hi, line, ha, hn, hc, ca, cc, calls, made⟩ := t
    dsimp only at *
    subst h0
    clear hF hS
    generalize fs.length = N at *
    have d1 : decide (file < 0) = false := by exact decide_eq_false h1
    have d2 : decide ((N : Int) ≤ file) = false := by exact decide_eq_false h2
    have d3 : decide (lo < 0) = false := by exact decide_eq_false h3
    have d4 : decide (hi < lo) = true := by exact decide_eq_true h4
    go_enter Try.func5, Try.ntmps5
    go_wp2_with fail
    go_quiet (fail)
    go_wp2
    go_ret2
    exact ⟨rfl, bel_drewN (HA.out _) _⟩
  obtain ⟨k, hk⟩ : ∃ k : Nat, t.file = k := ⟨t.file.toNat, by omega⟩
  obtain ⟨n, hn⟩ : ∃ n : Nat, t.lo = n := ⟨t.lo.toNat, by omega⟩
  obtain ⟨m, hm⟩ : ∃ m : Nat, t.hi = m := ⟨t.hi.toNat, by omega⟩
  have hkl : k < fs.length := by omega
  have hx : fs[k]? = some fs[k] := List.getElem?_eq_getElem hkl
  rcases hF with rfl | ⟨b, off, rfl, hb, hc⟩
  · simp at hkl
  have hcc := (hc k _ hx).2
  have hbb : b ≠ w.heap.size := by omega
  clear hc
  by_cases h5 : (fs[k].2.size : Int) < t.hi
  · rw [spanP_far fs t k n _ hk hn hx h5]
    obtain ⟨kind, text, space, first, file, lo, hi, line, ha, hn', hc, ca, cc, calls, made⟩ := t
    dsimp only at *
    clear hx hS
    generalize fs[k].2 = T at *
    generalize fs.length = N at *
    subst h0 hk hn hm
    have d1 : decide ((k : Int) < 0) = false := decide_eq_false h1
    have d2 : decide ((N : Int) ≤ (k : Int)) = false := decide_eq_false h2
    have d3 : decide ((n : Int) < 0) = false := decide_eq_false h3
    have d4 : decide ((m : Int) < (n : Int)) = false := decide_eq_false h4
    have d5 : decide ((T.size : Int) < (m : Int)) = true := decide_eq_true h5
    have e4 : decide (m < n) = false := decide_eq_false (by omega)
    have e2 : decide (N ≤ k) = false := decide_eq_false (by omega)
    have e5 : decide (T.size < m) = true := decide_eq_true (by omega)
    have hnm : n ≤ m := by omega
    go_enter Try.func5, Try.ntmps5
    go_wp2_with fail
    go_quiet (fail)
    go_wp2
    go_ret2
    exact ⟨rfl, bel_drewN (HA.out _) _⟩
  · rw [spanP_some fs t k n m _ hk hn hm hx h0 (by omega) (by omega)]
    have HT := hid (fun w => RSplice_any (fs[k].2.extract n m) w (sub_size _ _ _ (hS k _ hx)))
    have hsz := hS k _ hx
    obtain ⟨kind, text, space, first, file, lo, hi, line, ha, hn', hc, ca, cc, calls, made⟩ := t
    dsimp only at *
    clear hx hS
    generalize fs[k].2 = T at *
    generalize fs.length = N at *
    generalize (kept (T.extract n m).data.toList).length + 1 = kl at HT
    generalize atL (T.extract n m).data.toList = al at HT
    subst h0 hk hn hm
    have hnm : n ≤ m := by omega
    have hmt : m ≤ T.size := by omega
    have d1 : decide ((k : Int) < 0) = false := decide_eq_false h1
    have d2 : decide ((N : Int) ≤ (k : Int)) = false := decide_eq_false h2
    have d3 : decide ((n : Int) < 0) = false := decide_eq_false h3
    have d4 : decide ((m : Int) < (n : Int)) = false := decide_eq_false h4
    have d5 : decide ((T.size : Int) < (m : Int)) = false := decide_eq_false h5
    have e4 : decide (m < n) = false := decide_eq_false (by omega)
    have e2 : decide (N ≤ k) = false := decide_eq_false (by omega)
    have e5 : decide (T.size < m) = false := decide_eq_false (by omega)
    clear h4 h5 h1 h2 h3
    go_enter Try.func5, Try.ntmps5
    go_wp2_with fail
    go_quiet (fail)
    go_wp2_with fail
    have z4 := box_cell w #[.int .i64 kind, .string text, .bool space, .bool first, .int .i64 (k : Int), .int .i64 (n : Int), .int .i64 (m : Int), .int .i64 line, .slice ha hn' hc, .slice ca calls.length cc, .int .i64 0] 29 nq 4 _ rfl
    have z5 := box_cell w #[.int .i64 kind, .string text, .bool space, .bool first, .int .i64 (k : Int), .int .i64 (n : Int), .int .i64 (m : Int), .int .i64 line, .slice ha hn' hc, .slice ca calls.length cc, .int .i64 0] 29 nq 5 _ rfl
    have z6 := box_cell w #[.int .i64 kind, .string text, .bool space, .bool first, .int .i64 (k : Int), .int .i64 (n : Int), .int .i64 (m : Int), .int .i64 line, .slice ha hn' hc, .slice ca calls.length cc, .int .i64 0] 29 nq 6 _ rfl
    have z1 := old_cell (boxO ⟨kind, text, space, first, k, n, m, line, ha, hn', hc, ca, cc, calls, 0⟩) nq hcc
    have HB1 := hid (bel_drewN (HA.out (boxO ⟨kind, text, space, first, k, n, m, line, ha, hn', hc, ca, cc, calls, 0⟩)) nq)
    generalize World.drewN (World.alloc w (boxO ⟨kind, text, space, first, k, n, m, line, ha, hn', hc, ca, cc, calls, 0⟩)) nq = w1 at *
    have y4 := Later.cell z4
    have y5 := Later.cell z5
    have y6 := Later.cell z6
    have y1 := Later.cell z1
    have hnn : Nonempty (Later w1) := ⟨⟨_, Below.refl _ _⟩⟩
    clear z4 z5 z6 z1 hcc HA hbb hb
    refine region_later_tail 11 (by kernel_rfl) (by kernel_rfl) ?_
    simp only [List.take_succ_cons, List.take_zero, List.drop_succ_cons, List.drop_zero]
    repeat (quiet_step (fail))
    refine wpQuiet_nil ?_
    intro p
    have HB2 := hid (HB1.out.trans (p.hb.mono HB1.out.size))
    generalize p.W = w2 at HB2 ⊢
    clear y4 y5 y6 y1 hnn
    go_wp2_with fail
    refine (HT.out w2).mono ?_
    rintro e w3 ⟨b', c', rfl, hI, hb3⟩
    go_wp2_with fail
    go_ret2
    exact ⟨rfl, HB2.out.trans (hb3.mono HB2.out.size)⟩
end Go.Proofs.Ytdkkdkdddfihpaa
