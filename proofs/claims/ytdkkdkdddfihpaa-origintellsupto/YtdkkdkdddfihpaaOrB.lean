/- Walks of Span and of the document's own: the bytes from which a token was read, joined. -/
import Derived.Test.YtdkkdkdddfihpaaOrData
namespace Go.Proofs.Ytdkkdkdddfihpaa
open Go.RowKit Go.Shelf

/-- What Span tells: the text, or none. -/
def spanP (fs : List Sr) (t : Ov) : Option ByteArray := match behindP fs t.file t.lo with
  | some r => if t.made = 0 ∧ t.lo ≤ t.hi ∧ t.hi - t.lo ≤ r.size then some (textB (r.extract 0 (t.hi - t.lo).toNat)) else none
  | none => none
theorem behindP_pos {fs : List Sr} {file lo : Int} {r : ByteArray} (h : behindP fs file lo = some r) : ∃ (k n : Nat) (x : Sr), file = k ∧ lo = n ∧ fs[k]? = some x ∧ n ≤ x.2.size ∧ r = x.2.extract n x.2.size := by
  unfold behindP at h
  split at h
  · split at h
    · split at h
      · rename_i h1 x hx h2
        injection h with h
        refine ⟨file.toNat, lo.toNat, x, by omega, by omega, hx, by omega, h.symm⟩
      · cases h
    · cases h
  · cases h

/-- Files none of which is too long. -/
def Short (fs : List Sr) : Prop := ∀ (k : Nat) x, fs[k]? = some x → x.2.size ≤ 1048576
theorem sub_size (s : ByteArray) (i j : Nat) (h : s.size ≤ 1048576) : (s.extract i j).size ≤ 1048576 := by rw [ByteArray.size_extract]; omega
theorem pick_field (W : World) (x y : Value) : (Instr.field 43 (.agg #[x, y]) 0).run Try.prog W = .ok x W := by kernel_rfl

def SpanPost (r : Option ByteArray) (w : World) (e : Ending) (w' : World) : Prop := e = .returned (.tuple #[.string (r.getD ⟨#[]⟩), .bool r.isSome]) ∧ Below w.heap.size w w'

set_option maxRecDepth 100000 in
set_option maxHeartbeats 2000000 in
theorem Span_any (a : Option Addr) (cap : Nat) (fs : List Sr) (t : Ov) (w : World) (hF : FlAt w a fs) (hS : Short fs) (hhi : t.hi ≤ 9223372036854775807) :
    Calls Try.prog 4 #[.slice a fs.length cap, aggO t] w (SpanPost (spanP fs t) w) := by
  have HBh := hid (fun w h => behind_any a cap fs t.file t.lo w h)
  have HB0 := hid (fun o => hF.below ((Below.refl w.heap.size w).alloc (Nat.le_refl _) o))
  have HA := hid (fun o => (Below.refl w.heap.size w).alloc (Nat.le_refl _) o)
  have hfld := pick_field
  clear hF
  unfold aggO
  rcases hr : behindP fs t.file t.lo with _ | r
  · rw [show spanP fs t = none by unfold spanP; rw [hr]]
    rw [hr] at HBh
    obtain ⟨kind, text, space, first, file, lo, hi, line, ha, hn, hc, ca, cc, calls, made⟩ := t
    dsimp only at *
    clear hr
    go_enter Try.func4, Try.ntmps4
    go_wp2_with (go_at_call 12; refine (HBh.out _ (HB0.out _)).mono ?_; rintro e w' ⟨rfl, hww⟩; subst w')
    go_ret2
    exact ⟨rfl, HA.out _⟩
  · have HS : Hid (spanP fs t = if t.made = 0 ∧ t.lo ≤ t.hi ∧ t.hi - t.lo ≤ r.size then some (textB (r.extract 0 (t.hi - t.lo).toNat)) else none) := by show _ = _; unfold spanP; rw [hr]
    rw [hr] at HBh
    generalize spanP fs t = R at HS ⊢
    obtain ⟨kf, n, x, hk, hn, hx, hnx, hrx⟩ := behindP_pos hr
    have hrs : r.size ≤ 1048576 := by rw [hrx]; exact sub_size _ _ _ (hS kf x hx)
    have hlo : 0 ≤ t.lo := by omega
    clear hrx hx hnx hk hn x kf n hr hS
    obtain ⟨kind, text, space, first, file, lo, hi, line, ha, hn, hc, ca, cc, calls, made⟩ := t
    dsimp only at *
    by_cases hm : made = 0
    · subst hm
      by_cases hl : hi < lo
      · obtain rfl := HS.out.trans (if_neg (by omega))
        clear HS
        go_enter Try.func4, Try.ntmps4
        go_wp2_with (go_at_call 12; refine (HBh.out _ (HB0.out _)).mono ?_; rintro e w' ⟨rfl, hww⟩; subst w')
        go_ret2
        exact ⟨rfl, HA.out _⟩
      · obtain ⟨m, hm⟩ : ∃ m : Nat, hi - lo = m := ⟨(hi - lo).toNat, by omega⟩
        have hwr : IntKind.i64.wrap (hi - lo) = (m : Int) := by rw [IntKind.wrap_i64]; omega
        by_cases hq : (r.size : Int) < (m : Int)
        · obtain rfl := HS.out.trans (if_neg (by omega))
          clear HS hm
          go_enter Try.func4, Try.ntmps4
          go_wp2_with (go_at_call 12; refine (HBh.out _ (HB0.out _)).mono ?_; rintro e w' ⟨rfl, hww⟩; subst w')
          go_ret2
          exact ⟨rfl, HA.out _⟩
        · obtain rfl := HS.out.trans (if_pos (by omega))
          have hmr : m ≤ r.size := by omega
          have HT := hid (fun w => Text_any (r.extract 0 m) w (sub_size _ _ _ hrs))
          change Hid (∀ w, Calls Try.prog 13 #[.string (r.extract 0 m)] w fun e w' => ∃ b c, e = .returned (.agg #[.string (textB (r.extract 0 m)), .slice (some ⟨b, 0, none⟩) ((kept (r.extract 0 m).data.toList).length + 1) c]) ∧ IAt w' b (kept (r.extract 0 m).data.toList ++ [(r.extract 0 m).size]) ∧ Below w.heap.size w w') at HT
          have hmt : (hi - lo).toNat = m := by omega
          rw [hmt]
          generalize (kept (r.extract 0 m).data.toList).length + 1 = kl at HT
          clear HS hm hmt
          go_enter Try.func4, Try.ntmps4
          go_wp2_with (first | (go_at_call 12; refine (HBh.out _ (HB0.out _)).mono ?_; rintro e w' ⟨rfl, hww⟩; subst w') | (go_at_call 13; refine (HT.out _).mono ?_; rintro e w1 ⟨b, c, rfl, hI, hb1⟩))
          go_ret2
          exact ⟨rfl, (HA.out _).trans (hb1.mono (HA.out _).size)⟩
    · obtain rfl := HS.out.trans (if_neg (by omega))
      clear HS
      go_enter Try.func4, Try.ntmps4
      go_wp2_with (go_at_call 12; refine (HBh.out _ (HB0.out _)).mono ?_; rintro e w' ⟨rfl, hww⟩; subst w')
      go_ret2
      exact ⟨rfl, HA.out _⟩
end Go.Proofs.Ytdkkdkdddfihpaa
