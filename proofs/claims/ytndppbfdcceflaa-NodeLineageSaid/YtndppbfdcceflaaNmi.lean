/-
  The kit's maker of an Id.
  Conditions: none.
-/
import Derived.Test.YtndppbfdcceflaaNap
import Derived.Test.YtndppbfdcceflaaCaf
namespace Go.Proofs.Ytndppbfdcceflaa

open Go.RowKit

set_option maxRecDepth 20000 in
set_option maxHeartbeats 1000000 in
theorem mId_any (a b c : Int) (w : World) : Calls Try.prog 11 #[.int .i64 a, .int .i64 b, .int .i64 c] w fun e w' => ∃ x : GId, vI x = true ∧ e = .returned x.val ∧ Below w.heap.size w w' := by
  have H1 := Lib.hid fun W => mPlace_any a 4 (by omega) (by omega) W
  have H2 := Lib.hid fun W => mPlace_any b 12 (by omega) (by omega) W
  have H3 := Lib.hid fun W => mPlace_any c 3 (by omega) (by omega) W
  go_enter Try.func11, Try.ntmps11
  go_wp2_with fail
  go_fit (H1.out _)
  rintro e w1 ⟨p, p0, p1, rfl, rfl⟩
  go_wp2_with fail
  go_fit (H2.out _)
  rintro e w2 ⟨q, q0, q1, rfl, rfl⟩
  go_wp2_with fail
  go_fit (H3.out _)
  rintro e w3 ⟨r, r0, r1, rfl, rfl⟩
  have HV : Hid (vI ⟨p, 1 + q, r⟩ = true) := Lib.hid (vI_iff.2 (by simp only; omega))
  go_wp2
  refine bodyPost_ret (v := .agg #[.int .i64 p, .int .i64 (1 + q), .int .i64 r]) (by simp [results, Try.results11, go_sem]) rfl ?_
  exact ⟨_, HV.out, rfl, belt (Below.refl _ w) _⟩
end Go.Proofs.Ytndppbfdcceflaa
