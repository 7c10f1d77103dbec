/-
  A script of calls that came in, as it lies in memory; and the statements' own question whether it is great, as a walk over the translated text. The condition: the slice leads to the cells of the script.
-/
import Derived.Test.YtalifhgflngooaaMem
import Derived.Deep.Slices
import Derived.Lib.SmallJoins
namespace Go.Proofs.Ytalifhgflngooaa
open Go.ChangeShapes Go.WideShapes Go.ChangeAt Go.RowKit
namespace Stp
open Bas
set_option linter.unusedVariables false

/-- One call of a script. -/
structure OpD where
  kind : Int
  num : Int
  text : ByteArray
  list : List Int
/-- How it lies in memory: four cells. -/
structure OpAt (w : World) (b o : Nat) (d : OpD) (a : Option Addr) (c : Nat) : Prop where
  c0 : w.cell? ⟨b, o, none⟩ = some (.int .i64 d.kind)
  c1 : w.cell? ⟨b, o + 1, none⟩ = some (.int .i64 d.num)
  c2 : w.cell? ⟨b, o + 2, none⟩ = some (.string d.text)
  c3 : w.cell? ⟨b, o + 3, none⟩ = some (.slice a d.list.length c)
  row : Row .u32 w a d.list
  nil : a = none → c = 0
  max : d.list.length ≤ maxLen
  tmax : d.text.size ≤ maxLen
  fits : ∀ x ∈ d.list, (Lit.int .u32 x).wf = true
  wk : (Lit.int .i64 d.kind).wf = true
  wn : (Lit.int .i64 d.num).wf = true
theorem OpAt.mono {w w' : World} {b o : Nat} {d : OpD} {a : Option Addr} {c : Nat} (h : OpAt w b o d a c) (hb : Below w.heap.size w w') : OpAt w' b o d a c :=
  ⟨cell_later hb h.c0, cell_later hb h.c1, cell_later hb h.c2, cell_later hb h.c3, h.row.mono hb, h.nil, h.max, h.tmax, h.fits, h.wk, h.wn⟩
/-- The script, as it came in. -/
structure Script (w : World) (a : Option Addr) (n c : Nat) (D : Nat → OpD) : Prop where
  at_ : ∃ b off, (0 < n → a = some ⟨b, off, none⟩) ∧ ∀ i, i < n → ∃ ai ci, OpAt w b (off + i * 4) (D i) ai ci
  max : n ≤ maxLen
theorem Script.mono {w w' : World} {a : Option Addr} {n c : Nat} {D : Nat → OpD} (h : Script w a n c D) (hb : Below w.heap.size w w') : Script w' a n c D := by
  obtain ⟨⟨b, off, ha, hc⟩, hm⟩ := h
  refine ⟨⟨b, off, ha, fun i hi => ?_⟩, hm⟩
  obtain ⟨ai, ci, h⟩ := hc i hi
  exact ⟨ai, ci, h.mono hb⟩

section
variable {H : Type} {enc : TypeId × Value → H} {w : World} {base : Nat} {spare : Nat → Bool} {held : Bool}
theorem script_of {a : Option Addr} {n c fuel : Nat} {x : DataW H × List MemPlace} (h : DataW.trod enc Try.prog w base spare held fuel 22 [.slice a n c] = some x) : ∃ D, Script w a n c D := by
  rcases Deep.open_slice Try.underlying22 h with ⟨h0, -⟩ | ⟨ad, len, cap, m, fl, Dd, Pl, hcs, hb, hl, hm, hmm, -, hx⟩
  · simp at h0
    obtain ⟨rfl, rfl, rfl⟩ := h0
    exact ⟨fun _ => ⟨0, 0, ByteArray.empty, []⟩, ⟨0, 0, fun h => by omega, fun i hi => by omega⟩, by unfold maxLen; omega⟩
  · simp at hcs
    obtain ⟨rfl, rfl, rfl⟩ := hcs
    have hcell4 : Try.prog.cellsOf 35 = 4 := by kernel_rfl
    rw [hcell4] at hx
    have hlm : n ≤ m := by rw [hmm]; split <;> omega
    obtain ⟨b, off, hsp⟩ : ∃ b off, 0 < n → ad = ⟨b, off, none⟩ := by
      by_cases h0 : 0 < n
      · obtain ⟨cs', h1, -⟩ := hx 0 (by omega)
        obtain ⟨_, hlen, hc⟩ := World.cells?_some h1
        have := hc 0 (by omega)
        obtain ⟨bb, oo, spot⟩ := ad
        have hs : spot = none := by
          rw [List.getElem?_eq_getElem (by omega)] at this
          simpa [Addr.add] using World.cell?_spot this
        subst hs
        exact ⟨bb, oo, fun _ => rfl⟩
      · exact ⟨0, 0, fun h => absurd h h0⟩
    have each : ∀ i, i < n → ∃ d : OpD, ∃ ai ci, OpAt w b (off + i * 4) d ai ci := by
      intro i hi
      obtain ⟨cs', h1, h2⟩ := hx i (by omega)
      obtain rfl := hsp (by omega)
      obtain ⟨_, hlen, hc⟩ := World.cells?_some h1
      obtain ⟨y0, y1, y2, y3, k, -, -, t0, t1, t2, t3⟩ := Joins.trod_struct4 Try.underlying35 h2
      match cs', hlen with
      | [v0, v1, v2, v3], _ =>
        have e0 := hc 0 (by omega)
        have e1 := hc 1 (by omega)
        have e2 := hc 2 (by omega)
        have e3 := hc 3 (by omega)
        simp only [add_at] at e0 e1 e2 e3
        have k1 : Try.prog.cellsOf 3 = 1 := by kernel_rfl
        have k2 : Try.prog.cellsOf 9 = 1 := by kernel_rfl
        have k3 : Try.prog.cellsOf 33 = 1 := by kernel_rfl
        simp [k1, k2, k3] at t0 t1 t2 t3 e0 e1 e2 e3
        obtain ⟨kd, q0, -, wk⟩ := DataW.trod_int Try.underlying3 t0
        obtain ⟨nm, q1, -, wn⟩ := DataW.trod_int Try.underlying3 t1
        obtain ⟨tx, q2, -, htm⟩ := DataW.trod_string Try.underlying9 t2
        simp only [List.cons.injEq, and_true] at q0 q1 q2
        subst q0 q1 q2
        rcases open_ints Try.underlying33 Try.underlying50 (by kernel_rfl) t3 with ⟨q3, -⟩ | ⟨xa, ln, cp, zs, q3, _, hl3, hm3, hz, _, hcell, hwz⟩
        · simp only [List.cons.injEq, and_true] at q3
          subst q3
          exact ⟨⟨kd, nm, tx, []⟩, none, 0, e0, e1, e2, e3, row_nil _ _ _, fun _ => rfl, by unfold maxLen; simp, htm, by simp, wk, wn⟩
        · simp only [List.cons.injEq, and_true] at q3
          subst q3
          have hlz : ln ≤ zs.length := by rw [hz]; split <;> omega
          refine ⟨⟨kd, nm, tx, zs.take ln⟩, some xa, cp, e0, e1, e2, ?_, row_of _ _ _ _ _ hlz hcell, fun h => (by cases h), ?_, htm, fun n hn => hwz n (List.mem_of_mem_take hn), wk, wn⟩
          · rw [e3]; simp; omega
          · simp; omega
    have inh : Inhabited OpD := ⟨⟨0, 0, ByteArray.empty, []⟩⟩
    obtain ⟨D, hD⟩ := Deep.choose_lt (α := OpD) (p := fun i d => ∃ ai ci, OpAt w b (off + i * 4) d ai ci) each
    exact ⟨D, ⟨b, off, fun h => by rw [hsp h], hD⟩, by omega⟩
end

/-- Is there more than is played? -/
def bigOp (d : OpD) : Bool := decide (300 < d.text.size) || decide (300 < d.list.length) || decide (1099511627776 < d.num)

set_option maxHeartbeats 1000000 in
theorem great_any (a : Option Addr) (n c : Nat) (D : Nat → OpD) (w : World) (h : Script w a n c D) :
    Calls Try.prog 9 #[.slice a n c] w fun e w' => (e = .returned (.bool true) ∨ (e = .returned (.bool false) ∧ n ≤ 300 ∧ ∀ i, i < n → bigOp (D i) = false)) ∧ Below w.heap.size w w' := by
  obtain ⟨⟨b, off, ha, hc⟩, hm⟩ := h
  unfold maxLen at hm
  by_cases hn : n ≤ 300
  · have hn' : (n : Int) ≤ 300 := by omega
    have HN : Hid (0 < n → a = some ⟨b, off, none⟩) := ha
    have HC : Hid (∀ i, i < n → ∃ ai ci, OpAt w b (off + i * 4) (D i) ai ci) := hc
    clear ha hc
    go_enter Try.func9, Try.ntmps9
    go_wp2
    go_loopw [10] (fun i wr => ∃ k : Nat, k ≤ n ∧ i = .int .i64 k ∧ (∀ i, i < k → bigOp (D i) = false) ∧ Below w.heap.size w wr) (fun i _ => n - (intOf i).toNat)
    case atStart => exact ⟨0, Nat.zero_le _, rfl, fun j hj => by omega, Below.refl _ _⟩
    case round =>
      obtain ⟨k, hk, rfl, hall, hbel⟩ := hrel
      have HA : Hid (∀ i, i < k → bigOp (D i) = false) := hall
      clear hall
      by_cases hlt : k < n
      · obtain rfl := HN.out (by omega)
        obtain ⟨ai, ci, hop⟩ := HC.out k hlt
        have hlt' : (k : Int) < (n : Int) := by omega
        have hop' := hop.mono hbel
        obtain ⟨c0, c1, c2, c3, -, -, -, -, -, -, -⟩ := hop'
        by_cases h1 : 300 < (D k).text.size
        · have h1' : (300 : Int) < ((D k).text.size : Int) := by omega
          go_wp2
          go_ret
          exact ⟨.inl rfl, hbel.alloc hbel.size _⟩
        · have h1' : ((D k).text.size : Int) ≤ 300 := by omega
          by_cases h2 : 300 < (D k).list.length
          · have h2' : (300 : Int) < ((D k).list.length : Int) := by omega
            go_wp2
            go_ret
            exact ⟨.inl rfl, hbel.alloc hbel.size _⟩
          · have h2' : ((D k).list.length : Int) ≤ 300 := by omega
            by_cases h3 : 1099511627776 < (D k).num
            · go_wp2
              go_ret
              exact ⟨.inl rfl, hbel.alloc hbel.size _⟩
            · have HB : Hid (bigOp (D k) = false) := by
                unfold bigOp
                simp only [Bool.or_eq_false_iff, decide_eq_false_iff_not]
                exact ⟨⟨h1, h2⟩, h3⟩
              go_wp2
              go_roundw
              case rel =>
                refine ⟨k + 1, by omega, by go_num, fun i hi => ?_, hbel.alloc hbel.size _⟩
                by_cases e : i = k
                · rw [e]; exact HB.out
                · exact HA.out i (by omega)
              case measure => simp [intOf]; omega
      · have hlt' : (n : Int) ≤ (k : Int) := by omega
        go_wp2
        go_ret
        exact ⟨.inr ⟨rfl, hn, fun i hi => HA.out i (by omega)⟩, hbel⟩
  · have hn' : (300 : Int) < (n : Int) := by omega
    clear ha hc
    go_enter Try.func9, Try.ntmps9
    go_wp2
    go_ret
    exact ⟨.inl rfl, Below.refl _ _⟩
end Stp
end Go.Proofs.Ytalifhgflngooaa
