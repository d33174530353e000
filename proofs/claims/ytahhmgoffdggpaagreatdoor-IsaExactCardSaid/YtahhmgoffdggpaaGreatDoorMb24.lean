/-
  The contract of strconv.FormatUint at base 10: the number's decimal digits. And what the table of powers of ten gives.
  Conditions: the table internal/strconv.uint64pow10 lies as the program's text writes it.
  The contract of the law's same: of two slices that hold the same tokens (with bare: the same but for their positions) it returns true.
  Conditions: the slices have at most 65536 elements.
  The contract of hwlex.Format: the tokens' text, or the empty string if one of them is not well formed.
  Conditions: at most 65536 tokens, each of at most 65536 bytes, each value one of a uint64; the table of powers of ten lies as the program's text writes it.
-/
import Derived.Test.YtahhmgoffdggpaaGreatDoorMb23
import Derived.Test.YtahhmgoffdggpaaGreatDoorMb15
import Derived.Lib.AppendIntMem
import Derived.Test.YtahhmgoffdggpaaGreatDoorMb7
namespace Go.Proofs.YtahhmgoffdggpaaGreatDoor

open Go.RowKit Go.Shelf Go.Sort

theorem decDigits_decL (u : Nat) : Lib.decDigits u = decL u := by
  induction u using Nat.strongRecOn with
  | _ u ih =>
    rw [Lib.decDigits]
    by_cases h : u < 10
    · rw [dif_pos h, decL_lt h]; rfl
    · rw [dif_neg h, decL_ge h, ih (u / 10) (by omega)]; rfl

def Pow (w : World) : Prop := Lib.TabIs Tryz.prog w "internal/strconv.uint64pow10" .u64 Lib.pow10Tab
theorem gPow : Tryz.prog.globalNamed "internal/strconv.uint64pow10" = some 2 := by kernel_rfl
theorem Pow.next {w w' : World} (h : Pow w) (hb : Below w.heap.size w w') : Pow w' := by
  unfold Pow Lib.TabIs World.var? at h ⊢
  rw [gPow] at h ⊢
  simp only [Option.bind_some] at h ⊢
  have hlt : 2 < w.heap.size := by
    rcases Nat.lt_or_ge 2 w.heap.size with h' | h'
    · exact h'
    · rw [Array.getElem?_eq_none h'] at h; cases h
  rw [hb.block _ hlt]
  exact h

end Go.Proofs.YtahhmgoffdggpaaGreatDoor


namespace Go.Proofs.YtahhmgoffdggpaaGreatDoor

open Go.RowKit Go.Shelf

/-- The same token, positions aside. -/
def GTok.like (a b : GTok) : Prop := a.kind = b.kind ∧ a.text = b.text ∧ a.value = b.value
theorem TRow.cells5 {w : World} {B : Nat} {A : Option Addr} {ts : List GTok} (h : TRow w B A ts) {i : Nat} (hi : i < ts.length) : ∃ b off, A = some ⟨b, off, none⟩ ∧ b < B ∧
    w.cell? ⟨b, off + i * 5, none⟩ = some (.int .i64 ts[i].kind) ∧ w.cell? ⟨b, off + i * 5 + 1, none⟩ = some (.string ⟨ts[i].text.toArray⟩) ∧ w.cell? ⟨b, off + i * 5 + 2, none⟩ = some (.int .u64 ts[i].value) ∧
    w.cell? ⟨b, off + i * 5 + 3, none⟩ = some (.int .i64 ts[i].line) ∧ w.cell? ⟨b, off + i * 5 + 4, none⟩ = some (.int .i64 ts[i].col) := by
  obtain ⟨b, off, e, hb, hc⟩ := h (by omega)
  exact ⟨b, off, e, hb, by have := hc i hi 0 _ rfl; simpa [Nat.add_assoc] using this, by have := hc i hi 1 _ rfl; simpa [Nat.add_assoc] using this, by have := hc i hi 2 _ rfl; simpa [Nat.add_assoc] using this,
    by have := hc i hi 3 _ rfl; simpa [Nat.add_assoc] using this, by have := hc i hi 4 _ rfl; simpa [Nat.add_assoc] using this⟩

end Go.Proofs.YtahhmgoffdggpaaGreatDoor


namespace Go.Proofs.YtahhmgoffdggpaaGreatDoor

open Go.RowKit Go.Shelf

/-- Tokens that are few and short. -/
def Few (ts : List GTok) : Prop := ts.length ≤ 65536 ∧ ∀ t ∈ ts, t.text.length ≤ 65536 ∧ 0 ≤ t.value ∧ t.value < 18446744073709551616
theorem txt_len (t : GTok) (h : t.text.length ≤ 65536) (h0 : 0 ≤ t.value) (h1 : t.value < 18446744073709551616) : (txt t).length ≤ 65538 := by
  unfold txt
  split
  · have := (isDec t.value.toNat (by omega)).len; omega
  · split
    · simp; omega
    · omega
theorem tail_len : ∀ (ts : List GTok), (∀ t ∈ ts, t.text.length ≤ 65536 ∧ 0 ≤ t.value ∧ t.value < 18446744073709551616) → (tailT ts).length ≤ ts.length * 65539 := by
  intro ts
  induction ts with
  | nil => intro _; simp [tailT]
  | cons t r ih =>
    intro h
    obtain ⟨h1, h2, h3⟩ := h t List.mem_cons_self
    have := ih fun x hx => h x (List.mem_cons_of_mem _ hx)
    have := txt_len t h1 h2 h3
    have e : tailT (t :: r) = 32 :: (txt t ++ tailT r) := by simp [tailT]
    rw [e]; simp; omega
theorem join_len (ts : List GTok) (h : ∀ t ∈ ts, t.text.length ≤ 65536 ∧ 0 ≤ t.value ∧ t.value < 18446744073709551616) : (joinT ts).length ≤ ts.length * 65539 := by
  cases ts with
  | nil => simp [joinT]
  | cons t r =>
    obtain ⟨h1, h2, h3⟩ := h t List.mem_cons_self
    have := tail_len r fun x hx => h x (List.mem_cons_of_mem _ hx)
    have := txt_len t h1 h2 h3
    show (txt t ++ tailT r).length ≤ _
    simp; omega
theorem Bld.next {w w' : World} {B b : Nat} {l : List UInt8} (h : Bld w B b l) (hb : Below w.heap.size w w') : Bld w' B b l := by
  have key : ∀ p, Lib.BuilderAt 57 5 B b p (Lib.byteCells l) w → Lib.BuilderAt 57 5 B b p (Lib.byteCells l) w' := by
    rintro p ⟨hB, v, hbk, hown, hne⟩
    have hlt : ∀ g o, w.heap[g]? = some o → g < w.heap.size := fun g o hg => by
      rcases Nat.lt_or_ge g w.heap.size with h' | h'
      · exact h'
      · simp [Array.getElem?_eq_none h'] at hg
    refine ⟨hB, v, (hb.block b (hlt b _ hbk)).trans hbk, ⟨hown.1, ?_⟩, hne⟩
    rcases hown.2 with hh | ⟨g, cap, cur, hv, hbs, hh, rest⟩
    · exact .inl hh
    · exact .inr ⟨g, cap, cur, hv, hbs, (hb.block g (hlt g _ hh)).trans hh, rest⟩
  rcases h with h | h
  · exact .inl (key _ h)
  · exact .inr (key _ h)
theorem all_snoc {ts : List GTok} {k : Nat} (h : k < ts.length) (ha : (ts.take k).all wf = true) (hw : wf ts[k] = true) : (ts.take (k + 1)).all wf = true := by
  rw [List.take_succ_eq_append_getElem h, List.all_append, ha]; simp [hw]
theorem all_fail {ts : List GTok} {k : Nat} (h : k < ts.length) (hw : wf ts[k] = false) : fmtL ts = [] := by
  unfold fmtL
  rw [if_neg]
  intro hh
  rw [List.all_eq_true] at hh
  rw [hh _ (List.getElem_mem h)] at hw
  cases hw
theorem fmt_done {ts : List GTok} {k : Nat} (h : ts.length ≤ k) (ha : (ts.take k).all wf = true) : fmtL ts = joinT (ts.take k) := by
  rw [List.take_of_length_le h] at ha ⊢
  unfold fmtL; rw [if_pos ha]
/-- A token's block. -/
def TokAt (w : World) (N : Nat) (t : GTok) : Prop := w.heap[N]? = some (.cells #[.int .i64 t.kind, .string ⟨t.text.toArray⟩, .int .u64 t.value, .int .i64 t.line, .int .i64 t.col] 80 (0, 0))
theorem TokAt.kept {w w' : World} {N b : Nat} {t : GTok} (h : TokAt w N t) (hk : Kept b w w') (hne : N ≠ b) : TokAt w' N t := hk N _ h (by simp; omega) (by rintro c fz he; cases he)

end Go.Proofs.YtahhmgoffdggpaaGreatDoor
