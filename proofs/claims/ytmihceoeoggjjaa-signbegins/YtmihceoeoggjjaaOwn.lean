/-
  What all walks of this seat share on slices that a call makes itself: rows of numbers that are owned, an append to them, lists of lists in memory. No statement of the program; no condition.
-/
import Derived.Test.YtmihceoeoggjjaaBase
import Derived.Laws.AppendOwnNone
import Derived.Lib.AppendZeros
import Derived.Laws.OwnMore
import Derived.Deep.Matrix
namespace Go.Proofs.Ytmihceoeoggjjaa
open Go.ChangeShapes Go.WideShapes Go.ChangeAt Go.RowKit
namespace Bas
set_option linter.unusedVariables false

theorem add_at (b off i : Nat) : (⟨b, off, none⟩ : Addr).add i = ⟨b, off + i, none⟩ := by
  unfold Addr.add; split
  · simp_all
  · rfl

/-- A slice value owns a row of numbers among the blocks from 'base' on. -/
def Own (k : IntKind) (e : TypeId) (w : World) (base : Nat) (v : Value) (l : List Int) : Prop :=
  w.ownsRow base e 1 v l.length (l.map (Value.int k))

theorem Own.nil (k : IntKind) (e : TypeId) (w : World) (base : Nat) : Own k e w base (.slice none 0 0) [] := World.ownsRow_nil _ _ _ _
theorem Own.row {k : IntKind} {e : TypeId} {w : World} {base : Nat} {v : Value} {l : List Int} (h : Own k e w base v l) :
    ∃ a c, v = .slice a l.length c ∧ Row k w a l ∧ l.length ≤ maxLen ∧ l.length ≤ c ∧ c ≤ maxLen := by
  rcases h.2 with ⟨rfl, hn⟩ | ⟨g, cap, cur, rfl, hb, hg, hnc, hcm, hcur, htake⟩
  · have : l = [] := List.length_eq_zero_iff.1 hn
    subst this
    exact ⟨none, 0, rfl, row_nil _ _ _, by simp [maxLen], by simp, by simp [maxLen]⟩
  · refine ⟨_, _, rfl, ⟨g, 0, fun _ => rfl, fun i hi => ?_⟩, by omega, hnc, hcm⟩
    have := World.ownsRow.cells h (g := g) rfl i (.int k (nth l i)) (by simp [nth, hi])
    rw [add_at] at this
    exact this
theorem Own.lt {k : IntKind} {e : TypeId} {w : World} {base : Nat} {v : Value} {l : List Int} (h : Own k e w base v l) : ∀ g, v.ownBlock = some g → base ≤ g ∧ g < w.heap.size :=
  World.ownsRow.lt h
theorem Own.at {k : IntKind} {e : TypeId} {w : World} {base : Nat} {a : Option Addr} {n c : Nat} {l : List Int} (h : Own k e w base (.slice a n c) l) (hp : 0 < l.length) :
    ∃ g, a = some ⟨g, 0, none⟩ ∧ base ≤ g ∧ g < w.heap.size ∧ (∀ j, w.frozen? ⟨g, j, none⟩ = false) ∧ ∀ j, j < l.length → w.cell? ⟨g, j, none⟩ = some (.int k (nth l j)) := by
  rcases h.2 with ⟨h1, h2⟩ | ⟨g, cap, cur, hv, hb, hg, rest⟩
  · omega
  · simp only [Value.slice.injEq] at hv
    obtain ⟨rfl, rfl, rfl⟩ := hv
    refine ⟨g, rfl, hb, (Array.getElem?_eq_some_iff.1 hg).1, fun j => World.ownsRow.frozenAt h j, fun j hj => ?_⟩
    rw [World.ownsRow.cellAt h j (by omega)]
    simp [nth, hj]
theorem Own.mono {k : IntKind} {e : TypeId} {w w' : World} {base B : Nat} {v : Value} {l : List Int} (h : Own k e w base v l) (hb : Below B w w') (hB : w.heap.size ≤ B) : Own k e w' base v l := by
  refine ⟨h.1, ?_⟩
  rcases h.2 with hn | ⟨g, cap, cur, rfl, hbb, hg, rest⟩
  · exact .inl hn
  · refine .inr ⟨g, cap, cur, rfl, hbb, ?_, rest⟩
    rw [hb.block g (Nat.lt_of_lt_of_le (Array.getElem?_eq_some_iff.1 hg).1 hB)]
    exact hg
theorem Own.alloc {k : IntKind} {e : TypeId} {w : World} {base : Nat} {v : Value} {l : List Int} (h : Own k e w base v l) (o : Obj) : Own k e (w.alloc o) base v l :=
  World.ownsRow.alloc h o
theorem Own.base {k : IntKind} {e : TypeId} {w : World} {base base' : Nat} {v : Value} {l : List Int} (h : Own k e w base v l) (hb : base' ≤ base) : Own k e w base' v l := by
  refine ⟨h.1, ?_⟩
  rcases h.2 with hn | ⟨g, cap, cur, rfl, hbb, rest⟩
  · exact .inl hn
  · exact .inr ⟨g, cap, cur, rfl, by omega, rest⟩
theorem ints_one (k : IntKind) (l : List Int) : ∀ u ∈ l.map (Value.int k), u.oneCell' = true := by
  intro u hu
  obtain ⟨x, _, rfl⟩ := List.mem_map.1 hu
  rfl

section
variable {P : Program} {w : World}
/-- An append of a row of numbers, whatever its address, to a row that is owned. -/
theorem wpList_append_ints {ops : Array Oper} {rest : List Oper} {o : Oper} {a : Act} {Q : Exit → Act → World → Prop} (hgd : o.guard = none) (s x : Operand) (t : TypeId)
    (ho : o.op = .call { callee := .builtin .append, args := #[s, x], argTypes := #[t, t] })
    (base : Nat) (k : IntKind) (e : TypeId) (bytes : Nat) (ht : P.underlying t = some (.slice e))
    (hinfo : (P.info? e).map (fun i => (i.zero, i.size, i.bytes)) = some (some (.int k 0), 1, bytes))
    (v : Value) (l : List Int) (hs : a.eval s = v) (hown : Own k e w base v l)
    (ad : Option Addr) (m c : Nat) (l2 : List Int) (hx : a.eval x = .slice ad m c) (hrow : Row k w ad l2) (hm : l2.length = m) (hc : ad = none → c = 0)
    (h63 : l.length + m ≤ maxLen) (hbytes : (l.length + m) * bytes ≤ 140737488355328) (hbase : base ≤ w.heap.size)
    (h : ∀ v' w', Own k e w' base v' (l ++ l2) → w.grownBy w' v.ownBlock → wpList P ops Q rest (a.put o.dst v') w') : wpList P ops Q (o :: rest) a w := by
  obtain ⟨i, hi, hz, hsz, hby⟩ := info_parts hinfo
  have fin : ∀ (n : Nat) (ad : Addr), Row k w (some ad) l2 → a.eval x = .slice (some ad) m c → wpList P ops Q (o :: rest) a w := by
    intro n ad hrow hx
    refine wpList_append_own w hgd s x t ho base e i (.int k 0) 1 bytes ht hi hz hsz hby rfl (by decide) v l.length (l.map (Value.int k)) hs hown ad m c (l2.map (Value.int k)) hx (by simp [hm]) ?_ (ints_one k l2) h63 hbytes hbase ?_
    · intro j u hu
      obtain ⟨b, off, ha, hc⟩ := hrow
      have hj : j < l2.length := by
        have := (List.getElem?_eq_some_iff.1 hu).1; simpa using this
      have hne : l2 ≠ [] := by intro e; subst e; simp at hj
      have hadd := ha hne
      simp only [Option.some.injEq] at hadd
      subst hadd
      rw [add_at, hc j hj]
      simp [nth, hj] at hu ⊢
      exact hu
    · intro v' w' h2 h3 _
      refine h v' w' ?_ h3
      unfold Own
      rw [List.length_append, List.map_append, hm]
      exact h2
  cases ad with
  | some ad => exact fin 0 ad hrow hx
  | none =>
    have hnil : l2 = [] := by
      obtain ⟨b, off, ha, _⟩ := hrow
      cases l2 with
      | nil => rfl
      | cons y r => exact absurd (ha (by simp)) (by simp)
    subst hnil
    have hm0 : m = 0 := by simpa using hm.symm
    have hc0 := hc rfl
    subst hm0 hc0
    refine wpList_append_own_none hgd s x t ho base e i 1 ht hi v l.length (l.map (Value.int k)) hs hown hx ?_
    refine h v w (by simpa using hown) ⟨rfl, rfl, rfl, Nat.le_refl _, fun _ _ _ => rfl⟩
end

/-- The list at a place of a list of lists. -/
def nthL (ll : List (List Int)) (i : Nat) : List Int := ll[i]?.getD []
theorem nthL_mem {ll : List (List Int)} {i : Nat} (h : i < ll.length) : nthL ll i ∈ ll := by simp [nthL, h]
theorem flatten_take_succ (ll : List (List Int)) (k : Nat) (h : k < ll.length) : (ll.take (k + 1)).flatten = (ll.take k).flatten ++ nthL ll k := by
  have e : nthL ll k = ll[k] := by simp [nthL, h]
  rw [List.take_succ_eq_append_getElem h, List.flatten_append, e]
  congr 1
  show ll[k] ++ [] = ll[k]
  exact List.append_nil _
theorem flatten_take_le (ll : List (List Int)) (k : Nat) : (ll.take k).flatten.length ≤ ll.flatten.length := by
  have h : ((ll.take k ++ ll.drop k).flatten).length = ll.flatten.length := by rw [List.take_append_drop]
  rw [List.flatten_append, List.length_append] at h
  omega
/-- A slice of slices leads to the numbers of lists. -/
def Rows2 (k : IntKind) (w : World) (a : Option Addr) (ll : List (List Int)) : Prop :=
  ∃ b off, (ll ≠ [] → a = some ⟨b, off, none⟩) ∧ ∀ i, i < ll.length → ∃ ai ci, w.cell? ⟨b, off + i, none⟩ = some (.slice ai (nthL ll i).length ci) ∧ Row k w ai (nthL ll i) ∧ (ai = none → ci = 0) ∧ (nthL ll i).length ≤ maxLen
theorem Rows2.mono {k : IntKind} {w w' : World} {a : Option Addr} {ll : List (List Int)} (h : Rows2 k w a ll) (hb : Below w.heap.size w w') : Rows2 k w' a ll := by
  obtain ⟨b, off, ha, hc⟩ := h
  refine ⟨b, off, ha, fun i hi => ?_⟩
  obtain ⟨ai, ci, h1, h2, h3⟩ := hc i hi
  exact ⟨ai, ci, cell_later hb h1, h2.mono hb, h3⟩
/-- What is known of a slice of slices of numbers that came in. -/
structure Ints2 (k : IntKind) (w : World) (a : Option Addr) (n c : Nat) (ll : List (List Int)) : Prop where
  rows : Rows2 k w a ll
  len : ll.length = n
  max : n ≤ maxLen
  fits : ∀ l ∈ ll, ∀ x ∈ l, (Lit.int k x).wf = true
theorem Ints2.mono {k : IntKind} {w w' : World} {a : Option Addr} {n c : Nat} {ll : List (List Int)} (h : Ints2 k w a n c ll) (hb : Below w.heap.size w w') : Ints2 k w' a n c ll :=
  ⟨h.rows.mono hb, h.len, h.max, h.fits⟩
theorem ints2_nil (k : IntKind) (w : World) : Ints2 k w none 0 0 [] :=
  ⟨⟨0, 0, fun h => absurd rfl h, fun i hi => by simp at hi⟩, rfl, by unfold maxLen; omega, by simp⟩
theorem ints2_of (k : IntKind) (w : World) {base : Nat} (x : Addr) (len cap : Nat) (A : Nat → Option Addr) (L C : Nat → Nat) (Z : Nat → List Int) (hl : len ≤ cap) (hm : cap ≤ maxLen)
    (hrows : ∀ r, r < cap → w.cell? (x.add r) = some (.slice (A r) (L r) (C r)) ∧ L r ≤ C r ∧ C r ≤ maxLen ∧ (Z r).length = C r ∧ (∀ n ∈ Z r, (Lit.int k n).wf = true) ∧ (A r = none → C r = 0) ∧
        ∀ a', A r = some a' → base ≤ a'.block ∧ ∀ c, c < C r → w.cell? (a'.add c) = some (.int k ((Z r).getD c 0))) :
    Ints2 k w (some x) len cap ((List.range len).map fun r => (Z r).take (L r)) := by
  have hnth : ∀ i, i < len → nthL ((List.range len).map fun r => (Z r).take (L r)) i = (Z i).take (L i) := by
    intro i hi; simp [nthL, hi]
  have hrow : ∀ i, i < len → Row k w (A i) ((Z i).take (L i)) := by
    intro i hi
    obtain ⟨_, h2, h3, h4, h5, h6, h7⟩ := hrows i (by omega)
    cases hA : A i with
    | none =>
      have := h6 hA
      have e : (Z i).take (L i) = [] := by
        have : L i = 0 := by omega
        rw [this]; rfl
      rw [e]; exact row_nil _ _ _
    | some a' => exact row_of k w a' (Z i) (L i) (by omega) (fun c hc => (h7 a' hA).2 c (by omega))
  refine ⟨?_, by simp, by omega, ?_⟩
  · by_cases h0 : len = 0
    · subst h0; exact ⟨0, 0, fun h => absurd rfl h, fun i hi => by simp at hi⟩
    · obtain ⟨b, off, spot⟩ := x
      have hc := (hrows 0 (by omega)).1
      have hspot : spot = none := by simpa [Addr.add] using World.cell?_spot hc
      subst hspot
      refine ⟨b, off, fun _ => rfl, fun i hi => ?_⟩
      have hi' : i < len := by simpa using hi
      obtain ⟨h1, h2, h3, h4, h5, h6, h7⟩ := hrows i (by omega)
      rw [add_at] at h1
      refine ⟨A i, C i, ?_, ?_, h6, ?_⟩
      · rw [hnth i hi', h1]; simp; omega
      · rw [hnth i hi']; exact hrow i hi'
      · rw [hnth i hi']; simp; omega
  · intro l hl x hx
    obtain ⟨r, hr, rfl⟩ := List.mem_map.1 hl
    have hr' : r < len := by simpa using hr
    exact (hrows r (by omega)).2.2.2.2.1 x (List.mem_of_mem_take hx)
/-- Two slices of numbers, one behind the other in a new block. -/
theorem rows2_pair {k : IntKind} {w : World} {a b : Option Addr} {n m c d : Nat} {l r : List Int} (h : Ints k w a n c l) (g : Ints k w b m d r) (t : TypeId) {z : Nat} (hz : z = w.heap.size) :
    Rows2 k (w.alloc (.cells #[.slice a n c, .slice b m d] t)) (some ⟨z, 0, none⟩) [l, r] := by
  refine ⟨z, 0, fun _ => rfl, fun i hi => ?_⟩
  have hi : i < 2 := hi
  have hB : Below w.heap.size w (w.alloc (.cells #[.slice a n c, .slice b m d] t)) := (Below.refl _ _).alloc (Nat.le_refl _) _
  rw [World.cell?_alloc_at _ _ _ _ hz]
  match i, hi with
  | 0, _ => exact ⟨a, c, by simp [nthL, h.len], h.row.mono hB, h.nil, by simpa [nthL, h.len] using h.max⟩
  | 1, _ => exact ⟨b, d, by simp [nthL, g.len], g.row.mono hB, g.nil, by simpa [nthL, g.len] using g.max⟩
theorem ne_nil_ofL {l : List (List Int)} {len k : Nat} (hl : l.length = len) (hk : k < len) : l ≠ [] := by
  intro e; subst e; simp at hl; omega
end Bas
end Go.Proofs.Ytmihceoeoggjjaa
