/-
  Tokens in memory: a slice of tokens that the call itself appends to, and a slice of tokens that is read.
  Conditions: none beyond what each theorem says.
-/
import Derived.Test.YtfmajccblnmglaaGreatDoorLexF
import Derived.Test.YtfmajccblnmglaaGreatDoorLexS
namespace Go.Proofs.YtfmajccblnmglaaGreatDoor

open Go.RowKit

/-- A token as it lies in memory, whatever its numbers. -/
structure GTok where
  kind : Int
  text : List UInt8
  value : Int
  line : Int
  col : Int
def Tok.g (t : Tok) : GTok := ⟨t.kind, t.text, t.value, t.line, t.col⟩
def GTok.cells (t : GTok) : List Value := [.int .i64 t.kind, .string ⟨t.text.toArray⟩, .int .u64 t.value, .int .i64 t.line, .int .i64 t.col]
def tcells (ts : List GTok) : List Value := ts.flatMap GTok.cells
theorem tcells_len (ts : List GTok) : (tcells ts).length = ts.length * 5 := by
  induction ts with
  | nil => rfl
  | cons t r ih => show (t.cells ++ tcells r).length = _; rw [List.length_append, ih]; simp [GTok.cells]; omega
theorem tcells_append (a b : List GTok) : tcells (a ++ b) = tcells a ++ tcells b := by simp [tcells]
theorem tcells_get (ts : List GTok) : ∀ (i j : Nat) (_ : i < ts.length) (_ : j < 5), (tcells ts)[i * 5 + j]? = (ts[i]).cells[j]? := by
  induction ts with
  | nil => intro i j h; simp at h
  | cons t r ih =>
    intro i j h hj
    show (t.cells ++ tcells r)[_]? = _
    cases i with
    | zero => rw [List.getElem?_append_left (by simp [GTok.cells]; omega)]; simp
    | succ i =>
      rw [List.getElem?_append_right (by simp [GTok.cells]; omega)]
      have e : (i + 1) * 5 + j - t.cells.length = i * 5 + j := by simp [GTok.cells]; omega
      rw [e, ih i j (by simpa using h) hj]; simp

/-- v is a slice of the call's own that holds the tokens ts. -/
def OwnT (w : World) (base : Nat) (v : Value) (ts : List GTok) : Prop := w.ownsRow base 70 5 v ts.length (tcells ts)
theorem OwnT.nil (w : World) (base : Nat) : OwnT w base (.slice none 0 0) [] := World.ownsRow_nil w base 70 5
theorem OwnT.alloc {w : World} {base : Nat} {v : Value} {l : List GTok} (h : OwnT w base v l) (o : Obj) : OwnT (w.alloc o) base v l := World.ownsRow.alloc h o
theorem OwnT.keep {w w' : World} {base : Nat} {v : Value} {l : List GTok} (h : OwnT w base v l) (hb : ∀ g, base ≤ g → g < w.heap.size → w'.heap[g]? = w.heap[g]?) : OwnT w' base v l := by
  refine ⟨h.1, ?_⟩
  rcases h.2 with hh | ⟨g, cap, cur, hv, hbs, hh, rest⟩
  · exact .inl hh
  · have hlt : g < w.heap.size := by
      rcases Nat.lt_or_ge g w.heap.size with h1 | h1
      · exact h1
      · rw [Array.getElem?_eq_none h1] at hh; cases hh
    exact .inr ⟨g, cap, cur, hv, hbs, (hb g hbs hlt).trans hh, rest⟩
theorem OwnT.below {w w' : World} {base B : Nat} {v : Value} {l : List GTok} (h : OwnT w base v l) (hB : w.heap.size ≤ B) (hb : Below B w w') : OwnT w' base v l := h.keep fun g _ hg => hb.block g (by omega)

/-- The slice value with address A and n elements holds the tokens ts and lies below block B. -/
def TRow (w : World) (B : Nat) (A : Option Addr) (ts : List GTok) : Prop :=
  0 < ts.length → ∃ b off, A = some ⟨b, off, none⟩ ∧ b < B ∧ ∀ i (h : i < ts.length), ∀ j u, (ts[i]).cells[j]? = some u → w.cell? ⟨b, off + (i * 5 + j), none⟩ = some u
theorem TRow.below {w w' : World} {B B' : Nat} {A : Option Addr} {ts : List GTok} (h : TRow w B A ts) (hB : B ≤ B') (hb : Below B' w w') : TRow w' B A ts := fun hn => by
  obtain ⟨b, off, e, hlt, hc⟩ := h hn
  exact ⟨b, off, e, hlt, fun i hi j u hu => (hb.cell (p := ⟨b, off + (i * 5 + j), none⟩) (by show b < B'; omega)).trans (hc i hi j u hu)⟩
theorem TRow.wide {w : World} {B B' : Nat} {A : Option Addr} {ts : List GTok} (h : TRow w B A ts) (hB : B ≤ B') : TRow w B' A ts := fun hn => by
  obtain ⟨b, off, e, hlt, hc⟩ := h hn
  exact ⟨b, off, e, by omega, hc⟩
theorem TRow.nil {w : World} {B : Nat} {A : Option Addr} : TRow w B A [] := fun h => absurd h (by simp)
theorem OwnT.row {w : World} {base : Nat} {v : Value} {ts : List GTok} (h : OwnT w base v ts) : ∃ A cap, v = .slice A ts.length cap ∧ ts.length ≤ cap ∧ TRow w w.heap.size A ts := by
  rcases h.2 with ⟨hv, h0⟩ | ⟨g, cap, cur, hv, hbs, hh, hn, hm, hs, ht⟩
  · have h1 : ts = [] := List.eq_nil_of_length_eq_zero h0
    subst h1
    exact ⟨none, 0, hv, Nat.le_refl _, TRow.nil⟩
  · subst hv
    have hlt : g < w.heap.size := by
      rcases Nat.lt_or_ge g w.heap.size with h1 | h1
      · exact h1
      · rw [Array.getElem?_eq_none h1] at hh; cases hh
    refine ⟨some ⟨g, 0, none⟩, cap, rfl, hn, fun _ => ⟨g, 0, rfl, hlt, fun i hi j u hu => ?_⟩⟩
    have hj : j < 5 := by
      rcases Nat.lt_or_ge j 5 with h1 | h1
      · exact h1
      · rw [List.getElem?_eq_none (by simp [GTok.cells]; omega)] at hu; cases hu
    rw [Nat.zero_add, World.ownsRow.cellAt h (i * 5 + j) (by omega), tcells_get ts i j hi hj, hu]

theorem tok_info : (Tryz.prog.info? 70).map (fun i => (i.zero, i.size, i.bytes)) = some (some (.agg #[.int .i64 0, .string ⟨#[]⟩, .int .u64 0, .int .i64 0, .int .i64 0]), 5, 48) := by kernel_rfl
theorem cells_one (t : GTok) : ∀ u ∈ t.cells, u.oneCell' = true := by intro u hu; simp [GTok.cells] at hu; rcases hu with rfl | rfl | rfl | rfl | rfl <;> rfl

/-- append(v, t): the token t lies in a block of its own. -/
theorem wpList_push {ops : Array Oper} {rest : List Oper} {o : Oper} {a : Act} {Q : Exit → Act → World → Prop} {W : World} (base : Nat) (v : Value) (ts : List GTok) (N : Nat) (t : GTok) (c : Nat)
    (hown : OwnT W base v ts) (hcell : ∀ j u, t.cells[j]? = some u → W.cell? ⟨N, j, none⟩ = some u) (hlen : ts.length ≤ 1000000) (hbase : base ≤ W.heap.size)
    (hgd : o.guard = none) (s x : Operand) (ho : o.op = .call { callee := .builtin .append, args := #[s, x], argTypes := #[64, 64] })
    (hs : a.eval s = v) (hx : a.eval x = .slice (some ⟨N, 0, none⟩) 1 c)
    (h : ∀ v' w', OwnT w' base v' (ts ++ [t]) → W.grownBy w' v.ownBlock → wpList Tryz.prog ops Q rest (a.put o.dst v') w') : wpList Tryz.prog ops Q (o :: rest) a W := by
  obtain ⟨i0, hi0, hz0, hz1, hz2⟩ := info_parts tok_info
  refine wpList_append_own W hgd s x 64 ho base 70 i0 _ 5 48 Tryz.underlying64 hi0 hz0 hz1 hz2 rfl (by omega) v ts.length (tcells ts) hs hown ⟨N, 0, none⟩ 1 c t.cells hx rfl ?_ (cells_one t) (by unfold maxLen; omega) (by omega) hbase ?_
  · intro j u hu
    have e : (⟨N, 0, none⟩ : Addr).add j = ⟨N, j, none⟩ := by unfold Addr.add; split <;> simp_all
    rw [e]; exact hcell j u hu
  · intro v' w' h1 h2 _
    refine h v' w' ?_ h2
    unfold OwnT
    rw [tcells_append, List.length_append]
    simpa [tcells] using h1

end Go.Proofs.YtfmajccblnmglaaGreatDoor
