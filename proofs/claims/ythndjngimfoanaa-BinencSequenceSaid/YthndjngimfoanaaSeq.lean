/-
  Byte strings one after the other: what is appended is decoded.
  Conditions: none beyond what each theorem says.
-/
import Derived.Test.YthndjngimfoanaaCanon
import Derived.Test.YthndjngimfoanaaOpen
import Derived.Test.YthndjngimfoanaaStringsWalk
namespace Go.Proofs.Ythndjngimfoanaa
open Go.RowKit

/-- The encodings of the parts, one after the other. -/
def encP : List Part → List UInt8
  | [] => []
  | p :: ps => uvar p.l.length ++ p.l ++ encP ps
theorem encP_append (a b : List Part) : encP (a ++ b) = encP a ++ encP b := by
  induction a with
  | nil => rfl
  | cons p a ih => show uvar p.l.length ++ p.l ++ encP (a ++ b) = uvar p.l.length ++ p.l ++ encP a ++ encP b; rw [ih]; simp only [List.append_assoc]
theorem encP_take (ps : List Part) (j : Nat) (h : j < ps.length) : encP (ps.take (j + 1)) = encP (ps.take j) ++ uvar (ps.getD j Part.zero).l.length ++ (ps.getD j Part.zero).l := by
  rw [List.take_succ_eq_append_getElem h, encP_append, List.getD_eq_getElem?_getD, List.getElem?_eq_getElem h]
  simp [encP, List.append_assoc]
theorem encP_split (ps : List Part) (j : Nat) (h : j < ps.length) : ∃ rest, encP ps = encP (ps.take j) ++ (uvar (ps.getD j Part.zero).l.length ++ ((ps.getD j Part.zero).l ++ rest)) := by
  refine ⟨encP (ps.drop (j + 1)), ?_⟩
  conv => lhs; rw [← List.take_append_drop (j + 1) ps, encP_append, encP_take ps j h]
  simp [List.append_assoc]
theorem encP_len (ps : List Part) (h : ∀ j, j < ps.length → (ps.getD j Part.zero).l.length ≤ 300) : (encP ps).length ≤ 310 * ps.length := by
  induction ps with
  | nil => simp [encP]
  | cons p ps ih =>
    have h0 := h 0 (by simp)
    have h1 := ih (fun j hj => h (j + 1) (by simpa using hj))
    have h2 := uvar_len p.l.length
    have h0' : p.l.length ≤ 300 := h0
    show (uvar p.l.length ++ p.l ++ encP ps).length ≤ _
    simp only [List.length_append, List.length_cons]
    omega

/-- A byte string that stands somewhere is decoded. -/
theorem bysR_at (pre p rest : List UInt8) (limit : Int) (hl : (p.length : Int) ≤ limit) (hp : p.length < 18446744073709551616) :
    bysR (pre ++ (uvar p.length ++ (p ++ rest))) (pre.length : Int) limit = (p, pre.length + (uvar p.length).length + p.length, 0) := by
  have hu := uvR_uvar pre p.length (p ++ rest) hp
  rw [bysR_ok (by omega) hu.symm (by omega) (by simp only [List.length_append]; omega)]
  have e : (pre ++ (uvar p.length ++ (p ++ rest))) = (pre ++ uvar p.length) ++ (p ++ rest) := by rw [List.append_assoc]
  have hlen : (pre ++ uvar p.length).length = pre.length + (uvar p.length).length := List.length_append
  rw [e, ← hlen, List.take_append, List.take_of_length_le (by omega), Nat.add_sub_cancel_left, List.drop_append, List.drop_of_length_le (Nat.le_refl _), Nat.sub_self, List.drop_zero, List.nil_append, List.take_left' rfl]
theorem bysR_over (pre p rest : List UInt8) (limit : Int) (h0 : 0 ≤ limit) (hl : limit < (p.length : Int)) (hp : p.length < 18446744073709551616) :
    bysR (pre ++ (uvar p.length ++ (p ++ rest))) (pre.length : Int) limit = ([], 0, 15) := by
  have hu := uvR_uvar pre p.length (p ++ rest) hp
  exact bysR_limit (by omega) hu.symm hl

end Go.Proofs.Ythndjngimfoanaa
