/-
  The contract of the law's same: of two slices that hold the same tokens (with bare: the same but for their positions) it returns true.
  Conditions: the slices have at most 65536 elements.
-/
import Derived.Test.YtfmajccblnmglaaGreatDoorOffM
namespace Go.Proofs.YtfmajccblnmglaaGreatDoor

open Go.RowKit Go.Shelf

/-- The same token, positions aside. -/
def GTok.like (a b : GTok) : Prop := a.kind = b.kind ∧ a.text = b.text ∧ a.value = b.value
theorem TRow.cells5 {w : World} {B : Nat} {A : Option Addr} {ts : List GTok} (h : TRow w B A ts) {i : Nat} (hi : i < ts.length) : ∃ b off, A = some ⟨b, off, none⟩ ∧ b < B ∧
    w.cell? ⟨b, off + i * 5, none⟩ = some (.int .i64 ts[i].kind) ∧ w.cell? ⟨b, off + i * 5 + 1, none⟩ = some (.string ⟨ts[i].text.toArray⟩) ∧ w.cell? ⟨b, off + i * 5 + 2, none⟩ = some (.int .u64 ts[i].value) ∧
    w.cell? ⟨b, off + i * 5 + 3, none⟩ = some (.int .i64 ts[i].line) ∧ w.cell? ⟨b, off + i * 5 + 4, none⟩ = some (.int .i64 ts[i].col) := by
  obtain ⟨b, off, e, hb, hc⟩ := h (by omega)
  exact ⟨b, off, e, hb, by have := hc i hi 0 _ rfl; simpa [Nat.add_assoc] using this, by have := hc i hi 1 _ rfl; simpa [Nat.add_assoc] using this, by have := hc i hi 2 _ rfl; simpa [Nat.add_assoc] using this,
    by have := hc i hi 3 _ rfl; simpa [Nat.add_assoc] using this, by have := hc i hi 4 _ rfl; simpa [Nat.add_assoc] using this⟩

end Go.Proofs.YtfmajccblnmglaaGreatDoor
