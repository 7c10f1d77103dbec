/-
  An append to a slice of the program's own, at a step of a region that draws its order. No statement of the program; no condition.
-/
import Derived.Test.YtmihceoeoggjjaaMem
import Derived.Deep.RegionHeld3
namespace Go.Proofs.Ytmihceoeoggjjaa
open Go.ChangeShapes Go.WideShapes Go.ChangeAt Go.RowKit
namespace Bas
set_option linter.unusedVariables false
section
variable {P : Program} {w : World}
theorem step_append_seg {ops : Array Oper} {o : Oper} {a : Act} {K : Act → World → Prop} {Q : Exit → Act → World → Prop} {E : Prop} (hgd : o.guard = none) (s x : Operand) (t tx : TypeId)
    (ho : o.op = .call { callee := .builtin .append, args := #[s, x], argTypes := #[t, tx] })
    (k : IntKind) (e : TypeId) (bytes : Nat) (ht : P.underlying t = some (.slice e))
    (hinfo : (P.info? e).map (fun i => (i.zero, i.size, i.bytes)) = some (some (.int k 0), 1, bytes))
    (v : Value) (l l2 : List Int) (hs : a.eval s = v) (hv : Seg k w v l) (xv : Value) (hxv : a.eval x = xv) (hx : Src P 1 tx xv l2.length (l2.map (Value.int k)) w)
    (h63 : l.length + l2.length ≤ maxLen) (hbytes : (l.length + l2.length) * bytes ≤ 140737488355328)
    (h : ∀ v' w', Seg k w' v' (l ++ l2) → Chg (fun b o => v.ownBlock = some b) w w' → Mov w v v' → K (a.put o.dst v') w') :
    if Region.wanted o (yielded ops a.tmps) = true then Oper.wp P o a w K Q else E := by
  have hw : Region.wanted o (yielded ops a.tmps) = true := by simp [Region.wanted, hgd]
  rw [if_pos hw]
  obtain ⟨v', w', hr, h1, h2, h3⟩ := run_append_seg t tx o.type k e bytes ht hinfo v l l2 hv xv hx h63 hbytes
  exact Lib.wp_append_run w s x t tx ho v xv hs hxv v' w' hr (h v' w' h1 h2 h3)
/-- .. of an operation with a guard that holds. -/
theorem step_append_segG {ops : Array Oper} {o : Oper} {a : Act} {K : Act → World → Prop} {Q : Exit → Act → World → Prop} {E : Prop} (hw : Region.wanted o (yielded ops a.tmps) = true) (s x : Operand) (t tx : TypeId)
    (ho : o.op = .call { callee := .builtin .append, args := #[s, x], argTypes := #[t, tx] })
    (k : IntKind) (e : TypeId) (bytes : Nat) (ht : P.underlying t = some (.slice e))
    (hinfo : (P.info? e).map (fun i => (i.zero, i.size, i.bytes)) = some (some (.int k 0), 1, bytes))
    (v : Value) (l l2 : List Int) (hs : a.eval s = v) (hv : Seg k w v l) (xv : Value) (hxv : a.eval x = xv) (hx : Src P 1 tx xv l2.length (l2.map (Value.int k)) w)
    (h63 : l.length + l2.length ≤ maxLen) (hbytes : (l.length + l2.length) * bytes ≤ 140737488355328)
    (h : ∀ v' w', Seg k w' v' (l ++ l2) → Chg (fun b o => v.ownBlock = some b) w w' → Mov w v v' → K (a.put o.dst v') w') :
    if Region.wanted o (yielded ops a.tmps) = true then Oper.wp P o a w K Q else E := by
  rw [if_pos hw]
  obtain ⟨v', w', hr, h1, h2, h3⟩ := run_append_seg t tx o.type k e bytes ht hinfo v l l2 hv xv hx h63 hbytes
  exact Lib.wp_append_run w s x t tx ho v xv hs hxv v' w' hr (h v' w' h1 h2 h3)
end
end Bas
end Go.Proofs.Ytmihceoeoggjjaa
