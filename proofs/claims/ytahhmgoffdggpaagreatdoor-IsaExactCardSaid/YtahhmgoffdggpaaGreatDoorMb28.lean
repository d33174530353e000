/-
  The kit's numbers in a block of the call's own; the kit's Instr makes a valid instruction.
  Conditions: the counter is small.
  The kit's Instr makes a valid instruction.
  Conditions: the counter is small; the program has 1 to 4096 instructions.
  The kit's Program makes a valid program.
  Conditions: none.
-/
import Derived.Test.YtahhmgoffdggpaaGreatDoorMb27
import Derived.Test.YtahhmgoffdggpaaGreatDoorMb11
import Derived.Test.YtahhmgoffdggpaaGreatDoorMb13
namespace Go.Proofs.YtahhmgoffdggpaaGreatDoor

open Go.RowKit

/-- An instruction of a program of n instructions that has no error, its operation k. -/
structure InsOk (k n : Nat) (x : GIns) : Prop where
  op : x.op = k
  a : regB (fmtN k).2.1 0 x.a = true
  b : regB (fmtN k).2.1 1 x.b = true
  c : regB (fmtN k).2.1 2 x.c = true
  un : (fmtN k).2.2 = 0 → x.imm = 0
  tg : (fmtN k).2.2 = 2 → 0 ≤ x.imm ∧ x.imm < n
  lo : -2147483648 ≤ x.imm
  hi : x.imm ≤ 2147483647
theorem InsOk.chk {k n : Nat} {x : GIns} (h : InsOk k n x) (hk : k < 28) : chkI x n = 0 := by
  have ho := h.op
  unfold chkI chkF
  rw [if_neg (by omega), ho, Int.toNat_natCast, h.a, h.b, h.c, if_neg (by simp), if_neg (fun hh => hh.2 (h.un hh.1)), if_neg (fun hh => by have := h.tg hh.1; omega)]
theorem regB_ok {f i : Nat} {r : Nat} (hi : i < f) (hr : r < 16) : regB f i r = true := by
  unfold regB
  rw [decide_eq_true (by omega : (0 : Int) ≤ r), decide_eq_true (by omega : (r : Int) < 16), decide_eq_true hi]; rfl
theorem regB_zero (f i : Nat) : regB f i 0 = true := by unfold regB; simp
/-- What the operands' letters say of a format. -/
theorem opsL_at {k i : Nat} (hk : k < 28) (hi : i < (opsL k).length) : ((opsL k)[i] = 97 ∧ 0 < (fmtN k).2.1) ∨ ((opsL k)[i] = 98 ∧ 1 < (fmtN k).2.1) ∨ ((opsL k)[i] = 99 ∧ 2 < (fmtN k).2.1) ∨ ((opsL k)[i] = 116 ∧ (fmtN k).2.2 = 2) ∨ ((opsL k)[i] = 105 ∧ (fmtN k).2.2 = 1) := by
  have : ∀ k : Fin 28, ∀ i : Fin 4, ∀ h : i.val < (opsL k.val).length, ((opsL k.val)[i.val] = 97 ∧ 0 < (fmtN k.val).2.1) ∨ ((opsL k.val)[i.val] = 98 ∧ 1 < (fmtN k.val).2.1) ∨ ((opsL k.val)[i.val] = 99 ∧ 2 < (fmtN k.val).2.1) ∨ ((opsL k.val)[i.val] = 116 ∧ (fmtN k.val).2.2 = 2) ∨ ((opsL k.val)[i.val] = 105 ∧ (fmtN k.val).2.2 = 1) := by decide +kernel
  have hl : ∀ k : Fin 28, (opsL k.val).length ≤ 4 := by decide +kernel
  exact this ⟨k, hk⟩ ⟨i, by have := hl ⟨k, hk⟩; simp only at this; omega⟩ hi
theorem opsL_len {k : Nat} (hk : k < 28) : (opsL k).length ≤ 4 := by
  have hl : ∀ k : Fin 28, (opsL k.val).length ≤ 4 := by decide +kernel
  exact hl ⟨k, hk⟩
end Go.Proofs.YtahhmgoffdggpaaGreatDoor


namespace Go.Proofs.YtahhmgoffdggpaaGreatDoor

open Go.RowKit

theorem str_index (l : List UInt8) (i : Nat) (h : i < l.length) (W : World) : (Instr.index 9 (.string ⟨l.toArray⟩) (.int .i64 i)).run Tryz.prog W = .ok (.int .u8 (l[i].toNat : Nat)) W := by
  have h1 : (⟨l.toArray⟩ : ByteArray)[i]? = some l[i] := by
    show (⟨l.toArray⟩ : ByteArray).data[i]? = _
    simp [h]
  simp [Instr.index, asIntOf, run_underlying Tryz.underlying9, h1]
theorem next_fr {N : Nat} {w w' : World} (hg : w.grownBy w' (some N)) : Fr w (fun g => g = N) w' (fun g => g = N) := Fr.grown (Fr.refl w _) hg (fun g hg => by cases hg; exact .inl rfl)
end Go.Proofs.YtahhmgoffdggpaaGreatDoor


namespace Go.Proofs.YtahhmgoffdggpaaGreatDoor

open Go.RowKit

/-- The instructions of a program of n instructions have no error. -/
def AllOk (n : Nat) (xs : List GIns) : Prop := ∀ x ∈ xs, ∃ k, k < 28 ∧ InsOk k n x
theorem AllOk.imm {n : Nat} {xs : List GIns} (h : AllOk n xs) : ∀ x ∈ xs, ImmOk x := fun x hx => by obtain ⟨k, _, h2⟩ := h x hx; exact ⟨h2.lo, h2.hi⟩
theorem AllOk.val {n : Nat} : ∀ {xs : List GIns}, AllOk n xs → valL n xs = 0
  | [], _ => rfl
  | x :: r, h => by
    obtain ⟨k, hk, h2⟩ := h x (by simp)
    rw [valL, h2.chk hk, if_neg (by omega)]
    exact AllOk.val fun y hy => h y (by simp [hy])
theorem AllOk.valP {xs : List GIns} (h : AllOk xs.length xs) (h1 : 1 ≤ xs.length) (h2 : xs.length ≤ 4096) : valP xs = 0 := by
  unfold Go.Proofs.YtahhmgoffdggpaaGreatDoor.valP
  rw [if_neg (by omega)]
  exact AllOk.val h
end Go.Proofs.YtahhmgoffdggpaaGreatDoor
