/-
  The contract of the document's Bytes of layer 8, as a walk over the translated text. The condition: the list is small, and of scalars.
-/
import Derived.Test.YtjbgcclbomimiaaDoorEBEnc
import Derived.Test.YtjbgcclbomimiaaDoorM8Byt
import Derived.Test.YtjbgcclbomimiaaDoorPerRf3
namespace Go.Proofs.YtjbgcclbomimiaaDoor
open Go.ChangeShapes Go.WideShapes Go.ChangeAt Go.RowKit
namespace EB
open Bas Sca Stp Scn Cod
set_option linter.unusedVariables false
variable {π : Par}

set_option maxHeartbeats 1000000 in
theorem rBytes_any (a : Option Addr) (n cp : Nat) (l : List Int) (w : World) (hr : Row .u32 w a l) (hl : l.length = n) (hn : n ≤ 100000) (hs : ∀ c ∈ l, isB c = true ∧ 0 ≤ c) :
    Calls Tryd.prog 40 #[.slice a n cp] w fun e w' => e = .returned (.string (Stp.strOf (bytesOf (oneN π) l))) ∧ Below w.heap.size w w' := by
  have H : Hid (Row .u32 w a l ∧ l.length = n ∧ ∀ c ∈ l, isB c = true ∧ 0 ≤ c) := ⟨hr, hl, hs⟩
  have hsz : (Stp.strOf (bytesOf (M8.oneN ()) l)).size ≤ 1000000 := by
    rw [strOf_size]
    have := bytesOf_le (M8.oneN ()) 5 (M8.oneN_max ()) l
    omega
  have HT : Hid (Txt.strOf (Per.turnL Per.tabL (bytesL (Stp.strOf (bytesOf (M8.oneN ()) l)))) = Stp.strOf (bytesOf (oneN π) l)) := by
    show _ = _
    rw [text_bytes (bytesOf_byte (M8.oneN ()) (M8.oneN_byte ()) l hs), bytesOf_turn]
  clear hr hl hs
  go_enter Tryd.func40, Tryd.ntmps40
  go_wp2_with fail
  refine (M8.rBytes_any (π := ()) a n cp l w H.out.1 H.out.2.1 hn H.out.2.2).mono ?_
  rintro e w1 ⟨rfl, b1⟩
  have HB1 : Hid (Below w.heap.size w w1) := b1
  clear b1
  go_wp2_with fail
  refine (Per.rText_any _ w1 hsz).mono ?_
  rintro e w2 ⟨rfl, b2⟩
  rw [HT.out]
  have HB2 : Hid (Below w.heap.size w w2) := below_two HB1.out b2
  clear b2 HB1
  go_wp2
  go_ret
  exact ⟨rfl, HB2.out⟩
end EB
end Go.Proofs.YtjbgcclbomimiaaDoor
