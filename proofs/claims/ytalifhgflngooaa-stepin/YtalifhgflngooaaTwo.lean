/-
  Two machines side by side in memory: one that is a Base and a Row (or a Pend) in one block, and a Base and a Row (or a Pend) in blocks of their own; what a change of one part leaves of the others. No statement of the program; no condition.
-/
import Derived.Test.YtalifhgflngooaaAwk2
namespace Go.Proofs.Ytalifhgflngooaa
open Go.ChangeShapes Go.WideShapes Go.ChangeAt Go.RowKit
namespace Stp
open Bas
set_option linter.unusedVariables false

structure Two (kd : IntKind) (w0 w : World) (N : Nat) (p q : Int) (en : Bool) (l : List Int) (v : Value) (p2 q2 : Int) (en2 : Bool) (l2 : List Int) (v2 : Value) : Prop where
  bel : Below N w0 w
  b1 : BaseAt w N 0 p q en
  r1 : RowAt kd w N 3 v l
  b2 : BaseAt w (N + 1) 0 p2 q2 en2
  r2 : RowAt kd w (N + 1 + 1) 0 v2 l2
  o1 : ∀ g, v.ownBlock = some g → N + 1 + 1 < g
  o2 : ∀ g, v2.ownBlock = some g → N + 1 + 1 < g
  ap : ∀ g, v.ownBlock = some g → v2.ownBlock ≠ some g

variable {kd : IntKind} {w0 w w' : World} {N : Nat} {p q p2 q2 : Int} {en en2 : Bool} {l l2 : List Int} {v v2 : Value}
theorem Two.lt (h : Two kd w0 w N p q en l v p2 q2 en2 l2 v2) : N + 1 + 1 < w.heap.size := h.r2.lt
theorem Two.below (h : Two kd w0 w N p q en l v p2 q2 en2 l2 v2) (hb : Below w.heap.size w w') : Two kd w0 w' N p q en l v p2 q2 en2 l2 v2 :=
  ⟨h.bel.trans (hb.mono (by have := h.lt; omega)), h.b1.below hb, h.r1.below hb, h.b2.below hb, h.r2.below hb, h.o1, h.o2, h.ap⟩
theorem Two.drew (h : Two kd w0 w N p q en l v p2 q2 en2 l2 v2) : Two kd w0 w.drew N p q en l v p2 q2 en2 l2 v2 :=
  h.below (Below.refl _ _).drew
theorem Two.setB1 (h : Two kd w0 w N p q en l v p2 q2 en2 l2 v2) {p' q' : Int} {en' : Bool} (hb : BaseAt w' N 0 p' q' en') (hc : Chg (footB N 0) w w') : Two kd w0 w' N p' q' en' l v p2 q2 en2 l2 v2 :=
  ⟨below_step h.bel hc (by have := h.lt; omega) (fun k j hk hh => by have := hh.1; omega), hb,
   h.r1.chg hc (fun k j hf hh => by
     rcases hf with hf | hf
     · have := hh.2.2; omega
     · have := h.o1 k hf; have := hh.1; omega),
   h.b2.far hc (fun j hh => by have := hh.1; omega),
   h.r2.chg hc (fun k j hf hh => by
     rcases hf with hf | hf
     · have := hh.1; omega
     · have := h.o2 k hf; have := hh.1; omega), h.o1, h.o2, h.ap⟩
theorem Two.setB2 (h : Two kd w0 w N p q en l v p2 q2 en2 l2 v2) {p' q' : Int} {en' : Bool} (hb : BaseAt w' (N + 1) 0 p' q' en') (hc : Chg (footB (N + 1) 0) w w') : Two kd w0 w' N p q en l v p' q' en' l2 v2 :=
  ⟨below_step h.bel hc (by have := h.lt; omega) (fun k j hk hh => by have := hh.1; omega),
   h.b1.far hc (fun j hh => by have := hh.1; omega),
   h.r1.chg hc (fun k j hf hh => by
     rcases hf with hf | hf
     · have := hh.1; omega
     · have := h.o1 k hf; have := hh.1; omega), hb,
   h.r2.chg hc (fun k j hf hh => by
     rcases hf with hf | hf
     · have := hh.1; omega
     · have := h.o2 k hf; have := hh.1; omega), h.o1, h.o2, h.ap⟩
theorem Two.setR1 (h : Two kd w0 w N p q en l v p2 q2 en2 l2 v2) {l' : List Int} {v' : Value} (hr : RowAt kd w' N 3 v' l') (hc : Chg (footR N 3 v) w w') (hm : Mov w v v') : Two kd w0 w' N p q en l' v' p2 q2 en2 l2 v2 := by
  refine ⟨below_step h.bel hc (by have := h.lt; omega) (fun k j hk hh => ?_), h.b1.chg hc (fun k j hf hh => ?_), hr, h.b2.far hc (fun j hh => ?_), h.r2.chg hc (fun k j hf hh => ?_), fun g hg => ?_, h.o2, fun g hg hg2 => ?_⟩
  · rcases hh with hh | hh
    · omega
    · have := h.o1 k hh; omega
  · rcases hh with hh | hh
    · have := hf.2.2; omega
    · have := h.o1 k hh; have := hf.1; omega
  · rcases hh with hh | hh
    · omega
    · have := h.o1 _ hh; omega
  · rcases hh with hh | hh
    · rcases hf with hf | hf
      · omega
      · have := h.o2 k hf; omega
    · rcases hf with hf | hf
      · have := h.o1 k hh; omega
      · exact h.ap k hh hf
  · rcases hm g hg with e | e
    · exact h.o1 g e
    · have := h.lt; omega
  · rcases hm g hg with e | e
    · exact h.ap g e hg2
    · have := h.r2.seg.lt hg2; omega
theorem Two.setR2 (h : Two kd w0 w N p q en l v p2 q2 en2 l2 v2) {l' : List Int} {v' : Value} (hr : RowAt kd w' (N + 1 + 1) 0 v' l') (hc : Chg (footR (N + 1 + 1) 0 v2) w w') (hm : Mov w v2 v') : Two kd w0 w' N p q en l v p2 q2 en2 l' v' := by
  refine ⟨below_step h.bel hc (by have := h.lt; omega) (fun k j hk hh => ?_), h.b1.far hc (fun j hh => ?_), h.r1.chg hc (fun k j hf hh => ?_), h.b2.far hc (fun j hh => ?_), hr, h.o1, fun g hg => ?_, fun g hg hg2 => ?_⟩
  · rcases hh with hh | hh
    · omega
    · have := h.o2 k hh; omega
  · rcases hh with hh | hh
    · omega
    · have := h.o2 _ hh; omega
  · rcases hh with hh | hh
    · rcases hf with hf | hf
      · omega
      · have := h.o1 k hf; omega
    · rcases hf with hf | hf
      · have := h.o2 k hh; omega
      · exact h.ap k hf hh
  · rcases hh with hh | hh
    · omega
    · have := h.o2 _ hh; omega
  · rcases hm g hg with e | e
    · exact h.o2 g e
    · have := h.lt; omega
  · rcases hm g hg2 with e | e
    · exact h.ap g hg e
    · have := h.r1.seg.lt hg; omega
theorem Two.start (kd : IntKind) (w0 : World) (t1 t2 t3 : TypeId) {N : Nat} (hN : N = w0.heap.size) :
    Two kd w0 (((w0.alloc (.cells #[.int .i64 0, .int .i64 0, .bool false, .slice none 0 0] t1)).alloc (.cells #[.int .i64 0, .int .i64 0, .bool false] t2)).alloc (.cells #[.slice none 0 0] t3)) N 0 0 false [] (.slice none 0 0) 0 0 false [] (.slice none 0 0) := by
  have h1 := base_new w0 t1 [.slice none 0 0] hN
  have h2 := row3_new kd w0 t1 hN
  have al2 : Below (w0.alloc (.cells #[.int .i64 0, .int .i64 0, .bool false, .slice none 0 0] t1)).heap.size (w0.alloc (.cells #[.int .i64 0, .int .i64 0, .bool false, .slice none 0 0] t1)) ((w0.alloc (.cells #[.int .i64 0, .int .i64 0, .bool false, .slice none 0 0] t1)).alloc (.cells #[.int .i64 0, .int .i64 0, .bool false] t2)) := (Below.refl _ _).alloc (Nat.le_refl _) _
  have h3 := base_new (w0.alloc (.cells #[.int .i64 0, .int .i64 0, .bool false, .slice none 0 0] t1)) t2 [] (b := N + 1) (by simp; omega)
  have al3 : Below ((w0.alloc (.cells #[.int .i64 0, .int .i64 0, .bool false, .slice none 0 0] t1)).alloc (.cells #[.int .i64 0, .int .i64 0, .bool false] t2)).heap.size ((w0.alloc (.cells #[.int .i64 0, .int .i64 0, .bool false, .slice none 0 0] t1)).alloc (.cells #[.int .i64 0, .int .i64 0, .bool false] t2)) (((w0.alloc (.cells #[.int .i64 0, .int .i64 0, .bool false, .slice none 0 0] t1)).alloc (.cells #[.int .i64 0, .int .i64 0, .bool false] t2)).alloc (.cells #[.slice none 0 0] t3)) := (Below.refl _ _).alloc (Nat.le_refl _) _
  have nb : ∀ g, (Value.slice none 0 0).ownBlock = some g → False := fun g hg => by simp [Value.ownBlock] at hg
  exact ⟨(((Below.refl _ _).alloc (Nat.le_of_eq hN) _).alloc (by simp; omega) _).alloc (by simp; omega) _, (h1.below al2).below al3, (h2.below al2).below al3, h3.below al3, row0_new kd _ t3 (by simp; omega), fun g hg => (nb g hg).elim, fun g hg => (nb g hg).elim, fun g hg => (nb g hg).elim⟩
/-- What a call makes of a Base. -/
def stP (kd nm p q : Int) (en : Bool) : Int := if kd = 1 then eatI p q en nm else p
def stQ (kd nm q : Int) (en : Bool) : Int := if kd = 2 then stopI q en nm else q
def stE (kd q : Int) (en : Bool) : Bool := if kd = 3 then endB q en else en
end Stp
end Go.Proofs.Ytalifhgflngooaa
