/-
  The library's Equal at Ids, and the program's Equal.
  Conditions: none.
-/
import Derived.Test.YtndppbfdcceflaaGreatDoorNpb
namespace Go.Proofs.YtndppbfdcceflaaGreatDoor

open Go.RowKit

set_option maxRecDepth 20000 in
set_option maxHeartbeats 1000000 in
theorem pEqi_any (xs ys : List GId) (A B : Option Addr) (c d : Nat) (w : World) (h1 : PRow w w.heap.size A xs) (h2 : PRow w w.heap.size B ys) (hl : xs.length ≤ 17179869184) (hl2 : ys.length ≤ 17179869184) :
    Calls Tryz.prog 124 #[.slice A xs.length c, .slice B ys.length d] w fun e w' => e = .returned (.bool (decide (xs = ys))) ∧ Below w.heap.size w w' := by
  have H1 := Lib.hid h1
  have H2 := Lib.hid h2
  generalize hq : decide (xs = ys) = q at *
  clear h1 h2
  by_cases hn : xs.length = ys.length
  case neg =>
    have HQ : Hid (q = false) := Lib.hid (by rw [← hq, decide_eq_false_iff_not]; exact fun e => hn (by rw [e]))
    have f1 : ((xs.length : Int) != (ys.length : Int)) = true := by simp; omega
    clear hq hn
    generalize xs.length = n at *
    generalize ys.length = m at *
    go_enter Tryz.func124, Tryz.ntmps124
    go_wp2
    go_ret
    exact ⟨congrArg (fun b => Ending.returned (Value.bool b)) HQ.out.symm, Below.refl _ _⟩
  have HN := Lib.hid hn
  have f1 : ((xs.length : Int) != (ys.length : Int)) = false := by simp; omega
  have HQ := Lib.hid hq
  clear hq hn
  go_enter Tryz.func124, Tryz.ntmps124
  go_wp2
  clear f1
  go_loopw [13] (fun vi wr => ∃ k : Nat, vi = .int .i64 k ∧ k ≤ xs.length ∧ Hid (xs.take k = ys.take k) ∧ Hid (Below w.heap.size w wr)) (fun vi _ => xs.length - (intOf vi).toNat)
  case atStart => exact ⟨0, rfl, Nat.zero_le _, Lib.hid (by simp), Lib.hid (Below.refl _ _)⟩
  case round =>
    obtain ⟨k, rfl, hk, HT, HB⟩ := hrel
    rcases Nat.lt_or_ge k xs.length with hlt | hge
    · have hlt2 : k < ys.length := by have := HN.out; omega
      obtain ⟨b1, o1, rfl, hb1, x0, x1, x2⟩ := (H1.out.next HB.out).gid hlt
      obtain ⟨b2, o2, rfl, hb2, y0, y1, y2⟩ := (H2.out.next HB.out).gid hlt2
      have HBD := Lib.hid HB.out.drew
      have HEQ := Lib.hid fun W => id_eql xs[k] ys[k] W
      rcases he : eqI xs[k] ys[k] with _ | _
      · have HF : Hid (q = false) := Lib.hid (by
          rw [← HQ.out, decide_eq_false_iff_not]
          rintro rfl
          rw [(eqI_iff _ _).2 rfl] at he; cases he)
        rw [he] at HEQ
        have heq := fun W => HEQ.out W
        generalize xs[k] = x at *
        generalize ys[k] = y at *
        obtain ⟨xk, xb, xn⟩ := x
        obtain ⟨yk, yb, yn⟩ := y
        simp only [GId.val] at heq x0 x1 x2 y0 y1 y2
        clear he HEQ
        go_upto_region 6 with fail
        go_region
        go_wp2
        go_ret
        exact ⟨congrArg (fun b => Ending.returned (Value.bool b)) HF.out.symm, HBD.out⟩
      · have HT2 : Hid (xs.take (k + 1) = ys.take (k + 1)) := Lib.hid (by rw [List.take_succ_eq_append_getElem hlt, List.take_succ_eq_append_getElem hlt2, HT.out, (eqI_iff _ _).1 he])
        rw [he] at HEQ
        have heq := fun W => HEQ.out W
        generalize xs[k] = x at *
        generalize ys[k] = y at *
        obtain ⟨xk, xb, xn⟩ := x
        obtain ⟨yk, yb, yn⟩ := y
        simp only [GId.val] at heq x0 x1 x2 y0 y1 y2
        clear he HEQ
        go_upto_region 6 with fail
        go_region
        go_wp2
        go_roundw
        case rel => exact ⟨k + 1, by go_num, by omega, HT2, HBD⟩
        case measure => simp [intOf]; omega
    · have HF : Hid (q = true) := Lib.hid (by
        rw [← HQ.out, decide_eq_true_eq]
        have h9 := HT.out
        have h8 := HN.out
        rwa [List.take_of_length_le hge, List.take_of_length_le (by omega)] at h9)
      go_wp2
      go_ret
      exact ⟨congrArg (fun b => Ending.returned (Value.bool b)) HF.out.symm, HB.out⟩
end Go.Proofs.YtndppbfdcceflaaGreatDoor
