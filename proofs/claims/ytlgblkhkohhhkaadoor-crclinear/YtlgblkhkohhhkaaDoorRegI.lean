/-
  A region that draws its order, walked once: what each operation leaves in its slot is told by a relation of the slot, that stays true while memory grows; so no order is walked by itself. No statement of the program; no condition.
-/
import Derived.Test.YtlgblkhkohhhkaaDoorMem
import Derived.Deep.RegionHeld3
namespace Go.Proofs.YtlgblkhkohhhkaaDoor
open Go.ChangeShapes Go.WideShapes Go.ChangeAt Go.RowKit
namespace Bas
set_option linter.unusedVariables false
/-- Are all operations that fill a slot among those that this one waits for? -/
def waits (ops : Array Oper) (o : Oper) (d : Nat) : Bool :=
  (List.range ops.size).all fun j => match ops[j]? with
    | some x => (match x.dst with | some k => !(Nat.beq k d) | none => true) || o.after.any fun e => Region.binds .any e && Nat.beq e.on j
    | none => true
/-- Does each wait for earlier ones alone? -/
def early (ops : Array Oper) : Bool := (List.range ops.size).all fun i => match ops[i]? with
  | some o => o.after.all fun e => Nat.ble (e.on + 1) i
  | none => true
/-- A call's slots, told by a function. -/
def actN (N : Nat) (D : List Deferred) (f : Nat → Value) : Act := { tmps := ((List.range N).map f).toArray, defers := D }
def upd (f : Nat → Value) (d : Nat) (v : Value) : Nat → Value := fun k => if k = d then v else f k
theorem actN_put {N : Nat} {D : List Deferred} (f : Nat → Value) {d : Nat} (v : Value) (hd : d < N) : (actN N D f).put (some d) v = actN N D (upd f d v) := by
  unfold actN Act.put
  simp only [Act.mk.injEq, and_true]
  apply Array.ext_getElem?
  intro i
  rw [Array.getElem?_setIfInBounds]
  simp only [List.size_toArray, List.length_map, List.length_range, List.getElem?_toArray, List.getElem?_map]
  by_cases e : d = i
  · subst e
    rw [if_pos rfl, if_pos hd, List.getElem?_range hd]
    simp [upd]
  · rw [if_neg e]
    have e' : ¬ i = d := fun h => e h.symm
    by_cases hi : i < N
    · rw [List.getElem?_range hi]; simp [upd, e']
    · rw [List.getElem?_eq_none (by simpa using hi)]; rfl
theorem actN_eval {N : Nat} {D : List Deferred} (f : Nat → Value) {d : Nat} (hd : d < N) : (actN N D f).eval (.tmp d) = f d := by
  unfold actN Act.eval
  simp [Array.getD_eq_getD_getElem?, hd]
theorem actN_of (a : Act) : a = actN a.tmps.size a.defers (fun k => a.tmps.getD k undef) := by
  obtain ⟨t, D⟩ := a
  unfold actN
  simp only [Act.mk.injEq, and_true]
  apply Array.ext_getElem?
  intro i
  simp only [List.getElem?_toArray, List.getElem?_map]
  by_cases hi : i < t.size
  · rw [List.getElem?_range hi]; simp [Array.getD_eq_getD_getElem?, hi]
  · rw [List.getElem?_eq_none (by simpa using hi), Array.getElem?_eq_none (by omega)]; rfl
section
variable {P : Program} {ops : Array Oper} {Q : Exit → Act → World → Prop} {N : Nat} {D : List Deferred} {R : Nat → Value → World → Prop} {G : World → Prop}
/-- Are all operations that fill a slot done? -/
def Full (ops : Array Oper) (listed : Array Bool) (d : Nat) : Prop := ∀ j o, ops[j]? = some o → o.dst = some d → listed.getD j true = true
/-- What is known under way. -/
def RegJ (ops : Array Oper) (N : Nat) (D : List Deferred) (R : Nat → Value → World → Prop) (G : World → Prop) (listed : Array Bool) (a : Act) (w : World) : Prop :=
  G w ∧ ∃ f, a = actN N D f ∧ ∀ d, Full ops listed d → R d (f d) w
/-- One operation, wherever it comes up. -/
def RegS (P : Program) (ops : Array Oper) (Q : Exit → Act → World → Prop) (N : Nat) (D : List Deferred) (R : Nat → Value → World → Prop) (G : World → Prop) (o : Oper) : Prop :=
  o.guard = none ∧ ∃ d, o.dst = some d ∧ d < N ∧
  ∀ f w, G w → (∀ k, waits ops o k = true → k < N → R k ((actN N D f).eval (.tmp k)) w) → ∀ K : Act → World → Prop, (∀ v w', R d v w' → Below w.heap.size w w' → K ((actN N D f).put o.dst v) w') → o.wp P (actN N D f) w K Q
/-- All operations. -/
def RegL (P : Program) (ops : Array Oper) (Q : Exit → Act → World → Prop) (N : Nat) (D : List Deferred) (R : Nat → Value → World → Prop) (G : World → Prop) : List Oper → Prop
  | [] => True
  | o :: r => RegS P ops Q N D R G o ∧ RegL P ops Q N D R G r
theorem regL_mem {l : List Oper} (h : RegL P ops Q N D R G l) : ∀ o ∈ l, RegS P ops Q N D R G o := by
  induction l with
  | nil => intro o ho; cases ho
  | cons x r ih =>
    intro o ho
    rcases List.mem_cons.1 ho with rfl | ho
    · exact h.1
    · exact ih h.2 o ho
theorem full_of_waits {listed : Array Bool} {o : Oper} (hr : ∀ e ∈ o.after, Region.binds .any e = true → listed.getD e.on false = true) {d : Nat} (h : waits ops o d = true) : Full ops listed d := by
  intro j x hx hd
  unfold waits at h
  have hj : j < ops.size := (Array.getElem?_eq_some_iff.1 hx).1
  have := List.all_eq_true.1 h j (List.mem_range.2 hj)
  simp only [hx, hd] at this
  rcases Bool.or_eq_true_iff.1 this with h1 | h1
  · simp at h1
  · obtain ⟨e, he, h2⟩ := Array.any_eq_true'.1 h1
    obtain ⟨h3, h4⟩ := Bool.and_eq_true_iff.1 h2
    have h5 := hr e he h3
    rw [Nat.eq_of_beq_eq_true h4] at h5
    rcases Nat.lt_or_ge j listed.size with h6 | h6
    · simp [h6] at h5 ⊢; exact h5
    · simp [Array.getElem?_eq_none h6] at h5
theorem reg_step {i : Nat} {o : Oper} (ho : ops[i]? = some o) (hs : RegS P ops Q N D R G o) (hmono : ∀ d v w w', R d v w → Below w.heap.size w w' → R d v w') (hGm : ∀ w w', G w → Below w.heap.size w w' → G w') {listed : Array Bool} {a : Act} {w : World} (hi : i ∈ Region.ready .any ops listed) (hJ : RegJ ops N D R G listed a w) :
    wpOp P ops Q i (RegJ ops N D R G (listed.setIfInBounds i true)) a w := by
  obtain ⟨hG, f, rfl, hf⟩ := hJ
  obtain ⟨h0, o', ho', hr⟩ := mem_ready.1 hi
  obtain rfl := Option.some.inj (ho.symm.trans ho')
  obtain ⟨hg, d, hd, hdN, hs⟩ := hs
  have hw : Region.wanted o (yielded ops (actN N D f).tmps) = true := by simp [Region.wanted, hg]
  refine wpOp_step ho (fun K hK => ?_)
  rw [if_pos hw]
  refine hs f w hG (fun k hk hkN => by rw [actN_eval f hkN]; exact hf k (full_of_waits hr hk)) K (fun v w' hv hb => hK _ w' ?_)
  rw [hd, actN_put f v hdN]
  refine ⟨hGm w w' hG hb, upd f d v, rfl, fun k hk => ?_⟩
  by_cases e : k = d
  · subst e; simp only [upd, if_pos]; exact hv
  · simp only [upd, if_neg e]
    refine hmono k _ w w' (hf k fun j x hx hkx => ?_) hb
    have hji : j ≠ i := fun h => by subst h; rw [ho] at hx; obtain rfl := Option.some.inj hx; exact e (Option.some.inj (hkx.symm.trans hd))
    have := hk j x hx hkx
    rwa [getD_set_ne true (Ne.symm hji)] at this
/-- Where nothing may come up any more, all has come up. -/
theorem all_done (he : early ops = true) {listed : Array Bool} (hz : listed.size = ops.size) (hr : Region.ready .any ops listed = []) : ∀ j : Nat, j < ops.size → listed.getD j true = true := by
  intro j
  induction j using Nat.strongRecOn with
  | ind j ih =>
    intro hj
    cases hl : listed.getD j true with
    | true => rfl
    | false =>
      have hx : ops[j]? = some ops[j] := Array.getElem?_eq_getElem hj
      have : j ∈ Region.ready .any ops listed := mem_ready.2 ⟨hl, ops[j], hx, fun e hea hb => by
        have h1 := List.all_eq_true.1 he j (List.mem_range.2 hj)
        simp only [hx] at h1
        have h2 := Nat.le_of_ble_eq_true (Array.all_eq_true'.1 h1 e hea)
        have h3 := ih e.on (by omega) (by omega)
        have h4 : e.on < listed.size := by omega
        simp [h4] at h3 ⊢; exact h3⟩
      rw [hr] at this; cases this
theorem reg_any (hl : ∀ (i : Nat) (o : Oper), ops[i]? = some o → RegS P ops Q N D R G o) (hmono : ∀ d v w w', R d v w → Below w.heap.size w w' → R d v w') (hGm : ∀ w w', G w → Below w.heap.size w w' → G w') (he : early ops = true)
    (hend : ∀ f w, G w → (∀ d, R d (f d) w) → Q .normal (actN N D f) w) :
    ∀ (fuel : Nat) (listed : Array Bool) (a : Act) (w : World), listed.toList.countP (fun b => !b) ≤ fuel → listed.size = ops.size → RegJ ops N D R G listed a w → wpAny P .any ops Q fuel listed a w := by
  have fin : ∀ (listed : Array Bool) (a : Act) (w : World), listed.size = ops.size → Region.ready .any ops listed = [] → RegJ ops N D R G listed a w → Q .normal a w := by
    intro listed a w hz hr hJ
    obtain ⟨hG, f, rfl, hf⟩ := hJ
    exact hend f w hG (fun d => hf d (fun j o ho _ => all_done he hz hr j (Array.getElem?_eq_some_iff.1 ho).1))
  intro fuel
  induction fuel with
  | zero =>
    intro listed a w hc hz hJ
    have h0 : Region.ready .any ops listed = [] := by
      cases hr : Region.ready .any ops listed with
      | nil => rfl
      | cons i r =>
        have hi : i ∈ Region.ready .any ops listed := by rw [hr]; simp
        obtain ⟨h0, o, ho, -⟩ := mem_ready.1 hi
        have hlt : i < listed.size := by rw [hz]; exact (Array.getElem?_eq_some_iff.1 ho).1
        have : 0 < listed.toList.countP (fun b => !b) := List.countP_pos_iff.2 ⟨listed[i], by simp, by simp [hlt] at h0; simp [h0]⟩
        omega
    exact ⟨h0, fin listed a w hz h0 hJ⟩
  | succ fuel ih =>
    intro listed a w hc hz hJ
    refine ⟨fun h => fin listed a w hz h hJ, fun i hi => ?_⟩
    obtain ⟨h0, o, ho, hr⟩ := mem_ready.1 hi
    have hlt : i < listed.size := by rw [hz]; exact (Array.getElem?_eq_some_iff.1 ho).1
    refine wpOp_mono (fun a' w' hJ' => ih (listed.setIfInBounds i true) a' w' ?_ (by simpa using hz) hJ') (reg_step ho (hl i o ho) hmono hGm hi hJ)
    have hlt' : i < listed.toList.length := by simpa using hlt
    have h1 : listed.toList[i] = false := by simp [hlt] at h0; simpa using h0
    rw [Array.toList_setIfInBounds, List.countP_set hlt', h1]
    have h2 : 0 < listed.toList.countP (fun b => !b) := List.countP_pos_iff.2 ⟨listed.toList[i], List.getElem_mem hlt', by simp [h1]⟩
    simp only [Bool.not_false, Bool.not_true, if_true, Bool.false_eq_true, if_false]
    omega
/-- The region, walked once. -/
theorem region_inv {id : Nat} {a : Act} {w : World} (N : Nat) (D : List Deferred) (R : Nat → Value → World → Prop) (G : World → Prop) (hN : a.tmps.size = N) (hD : a.defers = D) (hm : P.follows .mixedOrders = true) (he : early ops = true)
    (hmono : ∀ d v w w', R d v w → Below w.heap.size w w' → R d v w') (hGm : ∀ w w', G w → Below w.heap.size w w' → G w')
    (hG : G w.drew) (hR : ∀ d, waits ops { dst := none, op := .move (.tmp 0), type := 0, pos := "", after := #[], guard := none } d = true → R d (a.tmps.getD d undef) w.drew)
    (hl : RegL P ops Q N D R G ops.toList)
    (hend : ∀ f w, G w → (∀ d, R d (f d) w) → Q .normal (actN N D f) w) : (Code.region id ops true).wp P Q a w := by
  subst hN hD
  have hl' : ∀ (i : Nat) (o : Oper), ops[i]? = some o → RegS P ops Q a.tmps.size a.defers R G o := fun i o ho => regL_mem hl o (by
    have := Array.mem_of_getElem? ho
    simpa using this)
  refine wp_region_any hm (reg_any hl' hmono hGm he hend ops.size _ a w.drew ?_ (by simp) ⟨hG, fun k => a.tmps.getD k undef, actN_of a, fun d hd => hR d ?_⟩)
  · have := List.countP_le_length (p := fun b : Bool => !b) (l := (Array.replicate ops.size false).toList)
    simpa using this
  · unfold waits
    refine List.all_eq_true.2 fun j hj => ?_
    have hj' := List.mem_range.1 hj
    have hx : ops[j]? = some ops[j] := Array.getElem?_eq_getElem hj'
    simp only [hx]
    cases hdst : ops[j].dst with
    | none => rfl
    | some k =>
      by_cases e : k = d
      · subst e
        have := hd j ops[j] hx hdst
        simp [hj'] at this
      · have hb : Nat.beq k d = false := by
          cases h : Nat.beq k d with
          | true => exact absurd (Nat.eq_of_beq_eq_true h) e
          | false => rfl
        simp [hb]
/-! ### What slots hold: a value, or a slice of one text in a block of its own -/
/-- 'cst': the value of a slot; 'sls': the text of the slice in a slot. -/
def RC (cst : Nat → Option Value) (sls : Nat → Option ByteArray) (d : Nat) (v : Value) (w : World) : Prop :=
  (∀ u, cst d = some u → v = u) ∧ ∀ s, sls d = some s → ∃ g, v = .slice (some ⟨g, 0, none⟩) 1 1 ∧ w.cell? ⟨g, 0, none⟩ = some (.string s)
variable {cst : Nat → Option Value} {sls : Nat → Option ByteArray}
theorem rc_mono (d : Nat) (v : Value) (w w' : World) (h : RC cst sls d v w) (hb : Below w.heap.size w w') : RC cst sls d v w' :=
  ⟨h.1, fun s hs => by obtain ⟨g, h1, h2⟩ := h.2 s hs; exact ⟨g, h1, cell_later hb h2⟩⟩
/-- An operation that yields its value. -/
theorem reg_cst {o : Oper} (d : Nat) (u : Value) (hd : o.dst = some d) (hN : d < N) (hg : o.guard = none) (hc : cst d = some u) (hs : sls d = none)
    (h : ∀ f w, G w → (∀ k u', waits ops o k = true → k < N → cst k = some u' → (actN N D f).tmps[k]?.getD undef = u') → (execOp (actN N D f).eval o).run P w = .ok (.value u) w) : RegS P ops Q N D (RC cst sls) G o := by
  refine ⟨hg, d, hd, hN, fun f w hG hf K hK => ?_⟩
  have hrun := h f w hG (fun k u' hk hkN hu => by
    have := (hf k hk hkN).1 u' hu
    rw [← this]; exact Array.getD_eq_getD_getElem?.symm)
  unfold Oper.wp
  rw [hrun]
  exact hK u w ⟨fun u' h' => by rw [hc] at h'; exact Option.some.inj h', fun s h' => by rw [hs] at h'; cases h'⟩ (Below.refl _ _)
/-- A slice of one text, made. -/
theorem reg_one {o : Oper} (d : Nat) (s : ByteArray) (t : TypeId) (hd : o.dst = some d) (hN : d < N) (hg : o.guard = none) (hc : cst d = none) (hs : sls d = some s)
    (h : ∀ f w, G w → (∀ k u', waits ops o k = true → k < N → cst k = some u' → (actN N D f).tmps[k]?.getD undef = u') → (execOp (actN N D f).eval o).run P w = .ok (.value (.slice (some ⟨w.heap.size, 0, none⟩) 1 1)) (w.alloc (.cells #[.string s] t))) : RegS P ops Q N D (RC cst sls) G o := by
  refine ⟨hg, d, hd, hN, fun f w hG hf K hK => ?_⟩
  have hrun := h f w hG (fun k u' hk hkN hu => by
    have := (hf k hk hkN).1 u' hu
    rw [← this]; exact Array.getD_eq_getD_getElem?.symm)
  unfold Oper.wp
  rw [hrun]
  refine hK _ _ ⟨fun u' h' => (by rw [hc] at h'; cases h'), fun s' h' => ⟨w.heap.size, rfl, ?_⟩⟩ ((Below.refl _ _).alloc (Nat.le_refl _) _)
  rw [hs] at h'
  obtain rfl := Option.some.inj h'
  rw [World.cell?_alloc_new]; rfl
/-- A call with such a slice. -/
theorem reg_call {o : Oper} (d j : Nat) (F : FuncId) (s : ByteArray) (u : Value) (hd : o.dst = some d) (hN : d < N) (hg : o.guard = none) (hc : cst d = some u) (hs : sls d = none) (hj : waits ops o j = true) (hjN : j < N) (hsj : sls j = some s)
    (hrun : ∀ (f : Nat → Value) w, (execOp (actN N D f).eval o).run P w = .ok (.enter F #[(actN N D f).eval (.tmp j)]) w)
    (hcall : ∀ g w, G w → w.cell? ⟨g, 0, none⟩ = some (.string s) → Calls P F #[.slice (some ⟨g, 0, none⟩) 1 1] w fun e w' => e = .returned u ∧ Below w.heap.size w w') : RegS P ops Q N D (RC cst sls) G o := by
  refine ⟨hg, d, hd, hN, fun f w hG hf K hK => ?_⟩
  obtain ⟨g, h1, h2⟩ := (hf j hj hjN).2 s hsj
  unfold Oper.wp
  rw [hrun, h1]
  refine (hcall g w hG h2).mono ?_
  rintro e w' ⟨rfl, hb⟩
  exact hK u w' ⟨fun u' h' => by rw [hc] at h'; exact Option.some.inj h', fun s h' => by rw [hs] at h'; cases h'⟩ hb
end
end Bas
end Go.Proofs.YtlgblkhkohhhkaaDoor
