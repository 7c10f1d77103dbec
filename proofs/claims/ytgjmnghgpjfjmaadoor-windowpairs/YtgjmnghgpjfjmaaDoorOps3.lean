/-
  Arrays of two numbers by value, and a slice of structs of three numbers (two ints, a uint32), as they come in: opened. No Go text is named here; no condition.
-/
import Derived.Test.YtgjmnghgpjfjmaaDoorMem
import Derived.Deep.Slices
import Derived.Deep.Strs
import Derived.Lib.SmallJoins
namespace Go.Proofs.YtgjmnghgpjfjmaaDoor
open Go.ChangeShapes Go.WideShapes Go.ChangeAt Go.RowKit
namespace Op3
open Bas
set_option linter.unusedVariables false

/-- One call of a script. -/
structure D3 where
  kind : Int
  num : Int
  sc : Int
structure At3 (w : World) (b o : Nat) (d : D3) : Prop where
  c0 : w.cell? ⟨b, o, none⟩ = some (.int .i64 d.kind)
  c1 : w.cell? ⟨b, o + 1, none⟩ = some (.int .i64 d.num)
  c2 : w.cell? ⟨b, o + 2, none⟩ = some (.int .u32 d.sc)
  wk : (Lit.int .i64 d.kind).wf = true
  wn : (Lit.int .i64 d.num).wf = true
  ws : (Lit.int .u32 d.sc).wf = true
theorem At3.mono {w w' : World} {b o : Nat} {d : D3} (h : At3 w b o d) (hb : Below w.heap.size w w') : At3 w' b o d := ⟨cell_later hb h.c0, cell_later hb h.c1, cell_later hb h.c2, h.wk, h.wn, h.ws⟩
/-- The script, as it came in. -/
structure Script (w : World) (a : Option Addr) (n c : Nat) (D : Nat → D3) : Prop where
  at_ : ∃ b off, (0 < n → a = some ⟨b, off, none⟩) ∧ ∀ i, i < n → At3 w b (off + i * 3) (D i)
  max : n ≤ maxLen
theorem Script.mono {w w' : World} {a : Option Addr} {n c : Nat} {D : Nat → D3} (h : Script w a n c D) (hb : Below w.heap.size w w') : Script w' a n c D := by
  obtain ⟨⟨b, off, ha, hc⟩, hm⟩ := h
  exact ⟨⟨b, off, ha, fun i hi => (hc i hi).mono hb⟩, hm⟩

section
variable {H : Type} {enc : TypeId × Value → H} {P : Program} {w : World} {base : Nat} {spare : Nat → Bool} {held : Bool}
theorem script_of {t e : TypeId} {f0 f1 f2 : Field} {a : Option Addr} {n c fuel : Nat} {x : DataW H × List MemPlace} (ht : P.underlying t = some (.slice e)) (he : P.underlying e = some (.struct #[f0, f1, f2]))
    (ce : P.cellsOf e = 3) (o0 : f0.offset = 0) (o1 : f1.offset = 1) (o2 : f2.offset = 2) (k0 : P.cellsOf f0.type = 1) (k1 : P.cellsOf f1.type = 1) (k2 : P.cellsOf f2.type = 1)
    (u0 : P.underlying f0.type = some (.int .i64)) (u1 : P.underlying f1.type = some (.int .i64)) (u2 : P.underlying f2.type = some (.int .u32))
    (h : DataW.trod enc P w base spare held fuel t [.slice a n c] = some x) : ∃ D, Script w a n c D := by
  rcases Deep.open_slice ht h with ⟨h0, -⟩ | ⟨ad, len, cap, m, fl, Dd, Pl, hcs, hb, hl, hm, hmm, -, hx⟩
  · simp at h0
    obtain ⟨rfl, rfl, rfl⟩ := h0
    exact ⟨fun _ => ⟨0, 0, 0⟩, ⟨0, 0, fun h => by omega, fun i hi => by omega⟩, by unfold maxLen; omega⟩
  · simp at hcs
    obtain ⟨rfl, rfl, rfl⟩ := hcs
    rw [ce] at hx
    have hlm : n ≤ m := by rw [hmm]; split <;> omega
    obtain ⟨b, off, hsp⟩ : ∃ b off, 0 < n → ad = ⟨b, off, none⟩ := by
      by_cases h0 : 0 < n
      · obtain ⟨cs', h1, -⟩ := hx 0 (by omega)
        obtain ⟨_, hlen, hc⟩ := World.cells?_some h1
        have := hc 0 (by omega)
        obtain ⟨bb, oo, spot⟩ := ad
        have hs : spot = none := by
          rw [List.getElem?_eq_getElem (by omega)] at this
          simpa [Addr.add] using World.cell?_spot this
        subst hs
        exact ⟨bb, oo, fun _ => rfl⟩
      · exact ⟨0, 0, fun h => absurd h h0⟩
    have each : ∀ i, i < n → ∃ d : D3, At3 w b (off + i * 3) d := by
      intro i hi
      obtain ⟨cs', h1, h2⟩ := hx i (by omega)
      obtain rfl := hsp (by omega)
      obtain ⟨_, hlen, hc⟩ := World.cells?_some h1
      obtain ⟨y0, y1, y2, k, -, -, t0, t1, t2⟩ := Deep.trod_struct3 he h2
      match cs', hlen with
      | [v0, v1, v2], _ =>
        have e0 := hc 0 (by omega)
        have e1 := hc 1 (by omega)
        have e2 := hc 2 (by omega)
        simp only [add_at] at e0 e1 e2
        simp [k0, k1, k2, o0, o1, o2] at t0 t1 t2 e0 e1 e2
        obtain ⟨kd, q0, -, wk⟩ := DataW.trod_int u0 t0
        obtain ⟨nm, q1, -, wn⟩ := DataW.trod_int u1 t1
        obtain ⟨sc, q2, -, ws⟩ := DataW.trod_int u2 t2
        simp only [List.cons.injEq, and_true] at q0 q1 q2
        subst q0 q1 q2
        exact ⟨⟨kd, nm, sc⟩, e0, e1, e2, wk, wn, ws⟩
    have inh : Inhabited D3 := ⟨⟨0, 0, 0⟩⟩
    obtain ⟨D, hD⟩ := Deep.choose_lt (α := D3) (p := fun i d => At3 w b (off + i * 3) d) each
    exact ⟨D, ⟨b, off, fun h => by rw [hsp h], hD⟩, by omega⟩
/-- Two numbers, by value. -/
theorem two_of {r : Reach} {b0 : Nat} {t e : TypeId} {k : IntKind} {v : Value} {d : DataW H} {p : List MemPlace} (ht : P.underlying t = some (.array 2 e)) (he : P.underlying e = some (.int k))
    (h1 : P.cellsOf e = 1) (h2 : P.cellsOf t = 2) (hv : Value.okWide P w r b0 t v) (h : DataW.Trod enc P w base spare held t v d p) :
    ∃ a b, v = .agg #[.int k a, .int k b] ∧ (Lit.int k a).wf = true ∧ (Lit.int k b).wf = true := by
  simp only [Value.okWide, ht] at hv
  obtain ⟨cs, rfl, hz, _⟩ := hv
  rw [h2] at hz
  obtain ⟨c0, c1, rfl⟩ : ∃ c0 c1, cs = #[c0, c1] := by
    obtain ⟨l⟩ := cs
    match l, hz with
    | [a, b], _ => exact ⟨a, b, rfl⟩
  obtain ⟨fuel, hf⟩ := h
  obtain ⟨xs, m, -, -, -, hxl, hx⟩ := DataW.trod_array ht hf
  have x0 := hx 0 (by omega)
  have x1 := hx 1 (by omega)
  rw [h1] at x0 x1
  rw [List.getElem?_eq_getElem (by omega)] at x0 x1
  simp [Value.cells] at x0 x1
  obtain ⟨a, q0, -, w0⟩ := DataW.trod_int he x0
  obtain ⟨b, q1, -, w1⟩ := DataW.trod_int he x1
  simp only [List.cons.injEq, and_true] at q0 q1
  subst q0 q1
  exact ⟨a, b, rfl, w0, w1⟩
end
end Op3
end Go.Proofs.YtgjmnghgpjfjmaaDoor
