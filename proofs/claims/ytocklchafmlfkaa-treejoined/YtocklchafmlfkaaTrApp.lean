/- An append of tokens to tokens. -/
import Derived.Test.YtocklchafmlfkaaLxTokens
import Derived.Test.YtocklchafmlfkaaAppNone
namespace Go.Proofs.Ytocklchafmlfkaa
open Go.RowKit Go.Shelf

theorem cellsT_at (vs : List Tk) : ∀ (k : Nat) (u : Value), (cellsT vs)[k]? = some u → ∃ x, vs[k / 11]? = some x ∧ (encT x)[k % 11]? = some u := by
  induction vs with
  | nil => intro k u h; simp [cellsT] at h
  | cons v r ih =>
    intro k u h
    have hc : cellsT (v :: r) = encT v ++ cellsT r := by simp [cellsT]
    rw [hc] at h
    by_cases hk : k < 11
    · rw [List.getElem?_append_left (by rw [encT_length]; exact hk)] at h
      exact ⟨v, by rw [Nat.div_eq_of_lt hk]; rfl, by rw [Nat.mod_eq_of_lt hk]; exact h⟩
    · rw [List.getElem?_append_right (by rw [encT_length]; omega), encT_length] at h
      obtain ⟨x, h1, h2⟩ := ih (k - 11) u h
      refine ⟨x, ?_, ?_⟩
      · rw [show k / 11 = (k - 11) / 11 + 1 by omega]
        exact h1
      · rw [show k % 11 = (k - 11) % 11 by omega]
        exact h2
theorem encT_one (x : Tk) : ∀ u ∈ encT x, u.oneCell' = true := by
  intro u hu
  unfold encT at hu
  simp only [List.mem_cons, List.mem_nil_iff, or_false] at hu
  rcases hu with rfl | rfl | rfl | rfl | rfl | rfl | rfl | rfl | rfl | rfl | rfl <;> rfl
theorem cellsT_one (vs : List Tk) : ∀ u ∈ cellsT vs, u.oneCell' = true := by
  intro u hu
  unfold cellsT at hu
  rw [List.mem_flatMap] at hu
  obtain ⟨x, _, hx⟩ := hu
  exact encT_one x u hx
theorem cellsT_app (a b : List Tk) : cellsT (a ++ b) = cellsT a ++ cellsT b := by simp [cellsT]
theorem wpList_append_toks {w : World} {ops : Array Oper} {rest : List Oper} {o : Oper} {a : Act} {Q : Exit → Act → World → Prop} (hgd : o.guard = none) (s x : Operand)
    (ho : o.op = .call { callee := .builtin .append, args := #[s, x], argTypes := #[23, 23] }) (base g cap : Nat) (ts us : List Tk) (av : Option Addr) (c : Nat)
    (hs : a.eval s = .slice (some ⟨g, 0, none⟩) ts.length cap) (hown : w.ownsRow base 38 11 (.slice (some ⟨g, 0, none⟩) ts.length cap) ts.length (cellsT ts)) (hx : a.eval x = .slice av us.length c) (hT : TAt w av us) (hl : ts.length + us.length ≤ 10000) (hbase : base ≤ w.heap.size)
    (h : ∀ g' cap' w', w'.ownsRow base 38 11 (.slice (some ⟨g', 0, none⟩) (ts ++ us).length cap') (ts ++ us).length (cellsT (ts ++ us)) → w.grownBy w' (some g) → wpList Try.prog ops Q rest (a.put o.dst (.slice (some ⟨g', 0, none⟩) (ts ++ us).length cap')) w') : wpList Try.prog ops Q (o :: rest) a w := by
  obtain ⟨ti, hti, htz0, htz1, htz2⟩ := info_parts info_tok
  have hle : ts.length ≤ cap := by
    rcases hown.2 with ⟨e, _⟩ | ⟨g', cap', cur, e, _, _, hle, _⟩
    · cases e
    · cases e; exact hle
  have key : ∀ ad news, a.eval x = .slice (some ad) us.length c → news = cellsT us → (∀ j u, news[j]? = some u → w.cell? (ad.add j) = some u) → wpList Try.prog ops Q (o :: rest) a w := by
    intro ad news hx' hn hc
    subst hn
    refine wpList_append_own w hgd s x 23 ho base 38 ti _ 11 120 Try.underlying23 hti htz0 htz1 htz2 rfl (by decide) _ ts.length (cellsT ts) hs hown ad us.length c (cellsT us) hx' (cellsT_length us) hc (cellsT_one us) (by unfold maxLen; omega) (by omega) hbase ?_
    intro v' w' ho' hg' hnil
    rw [← cellsT_app, ← List.length_append] at ho'
    rcases ho'.2 with ⟨e, _⟩ | ⟨g', cap', cur, e, _⟩
    · have := (hnil.1 e).1
      cases this
    · rw [e] at ho' ⊢
      exact h g' cap' w' ho' hg'
  cases us with
  | nil =>
    cases av with
    | some ad => exact key ad [] hx rfl (fun j u hu => by simp at hu)
    | none =>
      refine wpList_plain hgd fun K hK => ?_
      have hr := run_append_none (P := Try.prog) (w := w) 23 o.type 38 ti Try.underlying23 hti ⟨g, 0, none⟩ ts.length cap c hle
      have hx' : a.eval x = .slice none 0 c := hx
      unfold Oper.wp execOp
      simp only [ho, resolve, invoke, builtin, Sem.run_bind, Sem.run_pure, Result.andThen_ok, List.map_toArray, List.map_cons, List.map_nil, hs, hx', hr]
      refine hK _ _ ?_
      have := h g cap w (by rw [List.append_nil]; exact hown) ⟨rfl, rfl, rfl, Nat.le_refl _, fun _ _ _ => rfl⟩
      rw [List.append_nil] at this
      exact this
  | cons u r =>
    rcases hT with h0 | ⟨b, off, rfl, hlt, hc⟩
    · cases h0
    · refine key ⟨b, off, none⟩ (cellsT (u :: r)) hx rfl (fun j v hv => ?_)
      obtain ⟨y, h1, h2⟩ := cellsT_at (u :: r) j v hv
      have := hc (j / 11) y h1 (j % 11) v h2
      rw [Addr.add_lit, show off + j = off + j / 11 * 11 + j % 11 by omega]
      exact this
end Go.Proofs.Ytocklchafmlfkaa
