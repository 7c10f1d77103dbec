/-
  Plain facts on lists of numbers, for all layers. No Go text is named here; no condition.
-/
namespace Go.Proofs.Ytmihceoeoggjjaa.Bas

/-- The number at a place of a list (0 behind its end), behind a name that no rewriting opens. -/
def nth (l : List Int) (i : Nat) : Int := l[i]?.getD 0
theorem take_snoc (l : List Int) (k : Nat) (h : k < l.length) : l.take (k + 1) = l.take k ++ [nth l k] := by
  rw [List.take_succ_eq_append_getElem h]; simp [nth, h]
theorem drop_at (l : List Int) (k : Nat) (h : k < l.length) : l.drop k = nth l k :: l.drop (k + 1) := by
  rw [List.drop_eq_getElem_cons h]; simp [nth, h]
theorem ne_nil_of {l : List Int} {len k : Nat} (hl : l.length = len) (hk : k < len) : l ≠ [] := by
  intro e; subst e; simp at hl; omega
theorem nth_cons_zero (c : Int) (r : List Int) : nth (c :: r) 0 = c := rfl
theorem nth_cons_succ (c : Int) (r : List Int) (i : Nat) : nth (c :: r) (i + 1) = nth r i := by simp [nth]
theorem nth_mem {l : List Int} {i : Nat} (h : i < l.length) : nth l i ∈ l := by simp [nth, h]
theorem nth_take {l : List Int} {i n : Nat} (h : i < n) : nth (l.take n) i = nth l i := by simp [nth, h]
theorem nth_append_left {l m : List Int} {i : Nat} (h : i < l.length) : nth (l ++ m) i = nth l i := by simp [nth, List.getElem?_append_left h]
theorem nth_append_right {l m : List Int} {i : Nat} (h : l.length ≤ i) : nth (l ++ m) i = nth m (i - l.length) := by simp [nth, List.getElem?_append_right h]
end Go.Proofs.Ytmihceoeoggjjaa.Bas
