/-
  What the loop of the reference's Scan knows, as plain mathematics: k bytes are read, the position there is x, y, the tokens so far are ts.
  Conditions: none.
-/
import Derived.Test.YthpcfidcpaikgaaDoorRefS
namespace Go.Proofs.YthpcfidcpaikgaaDoor
open Go.RowKit Go.Shelf

structure RInv (l : List UInt8) (k x y : Nat) (ts : List Tok) : Prop where
  len : ts.length ≤ k
  pos : adv (1, 1) (l.take k) = (x, y)
  lexed : lex 0 (1, 1) l = (lex 0 (x, y) (l.drop k)).app ts
section
variable {l : List UInt8} {k x y : Nat} {ts : List Tok}
theorem RInv.start (l : List UInt8) : RInv l 0 1 1 [] := ⟨Nat.le_refl _, rfl, by rw [app_nil]; rfl⟩
theorem RInv.bd (h : RInv l k x y ts) (hl : l.length ≤ 65536) : x ≤ 65537 ∧ y ≤ 65537 := by
  have bd := adv_bd (l.take k) (1, 1) (Nat.le_refl _) (Nat.le_refl _)
  rw [h.pos, List.length_take] at bd
  have h1 := bd.2.2.1
  have h2 := bd.2.2.2
  simp at h1 h2
  omega
theorem RInv.skip (h : RInv l k x y ts) (hk : k < l.length) {n : Nat} (hn : 1 ≤ n) (hs : step (l.drop k) = .skip n) {x2 y2 : Nat} (hp : adv (1, 1) (l.take (k + n)) = (x2, y2)) : RInv l (k + n) x2 y2 ts := by
  refine ⟨by have := h.len; omega, hp, ?_⟩
  rw [h.lexed, lex_skipped _ n hk hn hs]
  rw [adv_next, h.pos] at hp
  rw [hp]
theorem RInv.sp (h : RInv l k x y ts) (hk : k < l.length) (hc : isSp l[k] = true) {x2 y2 : Nat} (hp : adv (1, 1) (l.take (k + 1)) = (x2, y2)) : RInv l (k + 1) x2 y2 ts := h.skip hk (Nat.le_refl _) (step_sp hk hc) hp
theorem RInv.cm (h : RInv l k x y ts) (hk : k < l.length) (hc : l[k] = 35) {x2 y2 : Nat} (hp : adv (1, 1) (l.take (k + run notNl (l.drop k))) = (x2, y2)) : RInv l (k + run notNl (l.drop k)) x2 y2 ts :=
  h.skip hk (by rw [drop_cons hk, run_cons_pos (by rw [hc]; rfl)]; omega) (step_comment hk hc) hp
theorem RInv.tok (h : RInv l k x y ts) (hk : k < l.length) (hs : isSp l[k] = false) (h35 : l[k] ≠ 35) {kd n tv : Nat} {tx : List UInt8} (hf : first (l.drop k) = .tok kd tx tv n) {x2 y2 : Nat} (hp : adv (1, 1) (l.take (k + n)) = (x2, y2)) :
    RInv l (k + n) x2 y2 (ts ++ [⟨kd, tx, tv, x, y⟩]) := by
  obtain ⟨hn1, _, _⟩ := first_len hf
  refine ⟨by have := h.len; rw [List.length_append]; simp; omega, hp, ?_⟩
  rw [h.lexed, lex_token _ kd tx tv n hk hn1 ((step_first hk hs h35).trans hf), app_cons]
  rw [adv_next, h.pos] at hp
  rw [hp]
theorem RInv.err (h : RInv l k x y ts) (hk : k < l.length) (hs : isSp l[k] = false) (h35 : l[k] ≠ 35) {e : Nat} (hf : first (l.drop k) = .err e) : lex 0 (1, 1) l = .no x y e := by
  rw [h.lexed, lex_error _ e hk ((step_first hk hs h35).trans hf)]; rfl
theorem RInv.fin (h : RInv l l.length x y ts) : lex 0 (1, 1) l = .ok ts := by
  rw [h.lexed, List.drop_length, lex_nil]; simp [Res.app]
end
/-- One byte moves the position. -/
theorem pos_nl {l : List UInt8} {j x y : Nat} (hj : j < l.length) (h : adv (1, 1) (l.take j) = (x, y)) (hc : l[j].toNat = 10) : adv (1, 1) (l.take (j + 1)) = (x + 1, 1) := by
  rw [adv_step hj, h]; simp [adv1, show l[j] = 10 from UInt8.toNat_inj.1 hc]
theorem pos_go {l : List UInt8} {j x y : Nat} (hj : j < l.length) (h : adv (1, 1) (l.take j) = (x, y)) (hc : ¬ l[j].toNat = 10) : adv (1, 1) (l.take (j + 1)) = (x, y + 1) := by
  rw [adv_step hj, h]; simp [adv1]; exact fun h => hc (by rw [h]; rfl)
theorem RMid.start (w : World) : RMid w (.slice none 0 0) ((w.alloc (.cells #[.int .i64 0, .int .i64 0] 25)).alloc (.cells #[.int .i64 1, .int .i64 1] 25)) [] 1 1 := by
  refine ⟨OwnT.nil _ _, ((Below.refl _ _).alloc (Nat.le_refl _) _).alloc (by simp) _, (Below.heap_alloc _ _ _ (by simp)).trans (heap_alloc_new w _), ?_⟩
  have := heap_alloc_new (w.alloc (.cells #[.int .i64 0, .int .i64 0] 25)) (.cells #[.int .i64 1, .int .i64 1] 25)
  have e : (w.alloc (.cells #[.int .i64 0, .int .i64 0] 25)).heap.size = w.heap.size + 1 := by simp
  rw [e] at this; exact this
theorem RMid.nl {w wr : World} {v : Value} {ts : List Tok} {x y : Nat} (h : RMid w v wr ts x y) (u : Value) : RMid w v (((wr.setCell ⟨w.heap.size + 1, 1, none⟩ u).setCell ⟨w.heap.size + 1, 0, none⟩ (.int .i64 ((x : Int) + 1))).setCell ⟨w.heap.size + 1, 1, none⟩ (.int .i64 1)) ts (x + 1) 1 := by
  refine h.set (fun g hg => ?_) (((h.bel.setCell (Nat.le_succ _) _).setCell (Nat.le_succ _) _).setCell (Nat.le_succ _) _) (two_set1 (two_set0 (two_set1 h.pos u) (.int .i64 ((x : Int) + 1))) (.int .i64 1))
  rw [Below.heap_setCell _ _ _ _ hg, Below.heap_setCell _ _ _ _ hg, Below.heap_setCell _ _ _ _ hg]
theorem RMid.go {w wr : World} {v : Value} {ts : List Tok} {x y : Nat} (h : RMid w v wr ts x y) : RMid w v (wr.setCell ⟨w.heap.size + 1, 1, none⟩ (.int .i64 ((y : Int) + 1))) ts x (y + 1) := by
  refine h.set (fun g hg => ?_) (h.bel.setCell (Nat.le_succ _) _) (two_set1 h.pos (.int .i64 ((y : Int) + 1)))
  rw [Below.heap_setCell _ _ _ _ hg]
end Go.Proofs.YthpcfidcpaikgaaDoor
