/-
  A region that leaves its order open, whose calls only make new memory: it may be walked in ONE order that is written out. What is read or computed is read as soon as it can be; its value holds in every later world, since later calls turn nothing that is there.
  Conditions: none beyond what each theorem says.
  The reference's functions on ranges: what they return.
  Conditions: none.
-/
import Derived.OrdersHeld
import Derived.Below
import Derived.Deep.RegionHeld
import Derived.Test.YtnoegjfokceghaaMc8
import Derived.Deep.RegionHeld3
import Derived.Lib.Builder
import Derived.StillTailTactics
import Derived.Deep.DeepCutAuto
import Derived.RegionTactic
import Derived.Deep.RegionLaw
namespace Go.Proofs.Ytnoegjfokceghaa

open Go.RowKit

/-- w' is a later world: nothing that was there in w has turned. -/
def Fut (w w' : World) : Prop := Below w.heap.size w w'
theorem Fut.refl (w : World) : Fut w w := Below.refl _ _
theorem Fut.trans {a b c : World} (h : Fut a b) (k : Fut b c) : Fut a c := Below.trans h (Below.mono k (Below.size h))
theorem Fut.drew {a b : World} (h : Fut a b) : Fut a b.drew := Below.drew h

section

variable {P : Program} {ops : Array Oper} {Q : Exit → Act → World → Prop} {md : Region.Mode}

theorem held_weaker {S T : World → Prop} (hST : ∀ w, S w → T w) : ∀ (fuel : Nat) (listed : Array Bool) (a : Act) (w : World), wpAnyH P md ops Q S fuel listed a w → wpAnyH P md ops Q T fuel listed a w
  | 0, _, _, _, h => h
  | fuel + 1, _, _, _, h => ⟨h.1, fun i hi => wpOp_mono (fun a' w' h' => ⟨hST _ h'.1, held_weaker hST fuel _ a' w' h'.2⟩) (h.2 i hi)⟩

/-- The walk in one order. 'true': what is computed or read, taken first; 'false': a call, when nothing else may come up. -/
def wpGrow (P : Program) (ops : Array Oper) (Q : Exit → Act → World → Prop) : List (Nat × Bool) → Act → World → Prop
  | [], a, w => Q .normal a w
  | (i, true) :: rest, a, w => ∃ oi v, ops[i]? = some oi ∧ YieldsIf P ops (Fut w) oi v a ∧ wpGrow P ops Q rest (a.put oi.dst v) w
  | (i, false) :: rest, a, w => wpOp P ops Q i (fun a' w' => Fut w w' ∧ wpGrow P ops Q rest a' w') a w

/-- That the order may be walked so: a closed fact on the region's edges. -/
def growOk (md : Region.Mode) (ops : Array Oper) : List (Nat × Bool) → Array Bool → Bool
  | [], listed => (Region.ready md ops listed).isEmpty
  | (i, true) :: rest, listed => (Region.ready md ops listed).contains i && Region.free md ops listed i && growOk md ops rest (listed.setIfInBounds i true)
  | (i, false) :: rest, listed => Region.ready md ops listed == [i] && growOk md ops rest (listed.setIfInBounds i true)

theorem grow_sound (hs : Region.noSelect ops = true) (hQ : ∀ c a d v w, Q (.panic c) (Act.put a d v) w → Q (.panic c) a w) : ∀ (ord : List (Nat × Bool)) (listed : Array Bool) (a : Act) (w : World),
    growOk md ops ord listed = true → wpGrow P ops Q ord a w → wpAnyH P md ops Q (Fut w) ord.length listed a w
  | [], listed, a, w, hok, h => wpAnyH_done (by simpa [growOk] using hok) h 0
  | (i, true) :: rest, listed, a, w, hok, h => by
    simp only [growOk, Bool.and_eq_true] at hok
    obtain ⟨oi, v, hi, hy, h⟩ := h
    exact wpAnyH_take hi hs hok.1.2 hok.1.1 (fun c a w => hQ c a _ _ w) hy (Fut.refl w) (grow_sound hs hQ rest _ _ _ hok.2 h)
  | (i, false) :: rest, listed, a, w, hok, h => by
    simp only [growOk, Bool.and_eq_true, beq_iff_eq] at hok
    refine wpAnyH_all hok.1 (by simp) fun j hj => ?_
    obtain rfl : j = i := by simpa using hj
    exact wpOp_mono (fun a' w' h' => ⟨h'.1, held_weaker (fun _ hk => h'.1.trans hk) _ _ _ _ (grow_sound hs hQ rest _ _ _ hok.2 h'.2)⟩) h

/-- THE BEGINNING: the order is written out by the prover, and checked. -/
theorem wp_region_grow {id : Nat} {a : Act} {w : World} (ord : List (Nat × Bool)) (hm : P.follows .mixedOrders = true) (hs : Region.noSelect ops = true)
    (hok : growOk .any ops ord (Array.replicate ops.size false) = true) (hn : ord.length = ops.size) (hQ : ∀ c a d v w, Q (.panic c) (Act.put a d v) w → Q (.panic c) a w)
    (h : wpGrow P ops Q ord a w.drew) : (Code.region id ops true).wp P Q a w := by
  have h1 := grow_sound hs hQ ord _ a w.drew hok h
  rw [hn] at h1
  exact wp_region_held hm h1

theorem wpGrow_nil {a : Act} {w : World} (h : Q .normal a w) : wpGrow P ops Q [] a w := h
theorem wpGrow_float {i : Nat} {oi : Oper} {v : Value} {rest : List (Nat × Bool)} {a : Act} {w : World} (hi : ops[i]? = some oi) (hw : Region.wanted oi (yielded ops a.tmps) = true)
    (hy : ∀ w', Fut w w' → (execOp a.eval oi).run P w' = .ok (.value v) w') (h : wpGrow P ops Q rest (a.put oi.dst v) w) : wpGrow P ops Q ((i, true) :: rest) a w :=
  ⟨oi, v, hi, .inl ⟨hw, hy⟩, h⟩
theorem wpGrow_skip {i : Nat} {oi : Oper} {rest : List (Nat × Bool)} {a : Act} {w : World} (hi : ops[i]? = some oi) (hw : Region.wanted oi (yielded ops a.tmps) = false)
    (h : wpGrow P ops Q rest (a.put oi.dst undef) w) : wpGrow P ops Q ((i, true) :: rest) a w :=
  ⟨oi, undef, hi, .inr ⟨hw, rfl⟩, h⟩
/-- A call that its guard passes over. -/
theorem wpGrow_pass {i : Nat} {oi : Oper} {rest : List (Nat × Bool)} {a : Act} {w : World} (hi : ops[i]? = some oi) (hw : Region.wanted oi (yielded ops a.tmps) = false)
    (h : wpGrow P ops Q rest (a.put oi.dst undef) w) : wpGrow P ops Q ((i, false) :: rest) a w := by
  show wpOp P ops Q i _ a w
  unfold wpOp
  simp only [hi, hw]
  exact ⟨Fut.refl w, h⟩
theorem wpGrow_call {i : Nat} {oi : Oper} {rest : List (Nat × Bool)} {a : Act} {w : World} (hi : ops[i]? = some oi) (hw : Region.wanted oi (yielded ops a.tmps) = true)
    (h : ∀ K : Act → World → Prop, (∀ a' w', Fut w w' → wpGrow P ops Q rest a' w' → K a' w') → oi.wp P a w K Q) : wpGrow P ops Q ((i, false) :: rest) a w := by
  show wpOp P ops Q i _ a w
  unfold wpOp
  simp only [hi, hw, if_true]
  exact .inl (h _ fun a' w' h1 h2 => ⟨h1, h2⟩)
end

end Go.Proofs.Ytnoegjfokceghaa


namespace Go.Proofs.Ytnoegjfokceghaa

open Go.RowKit

theorem beln {w w1 w2 : World} (h1 : Below w.heap.size w w1) (h2 : Below w1.heap.size w1 w2) : Below w.heap.size w w2 := h1.trans (h2.mono h1.size)
theorem belt {w w1 : World} (h1 : Below w.heap.size w w1) (o : Obj) : Below w.heap.size w (w1.alloc o) := h1.alloc h1.size o
theorem bela {w w1 w2 : World} {o : Obj} (h1 : Below w.heap.size w w1) (h2 : Below (w1.alloc o).heap.size (w1.alloc o) w2) : Below w.heap.size w w2 := beln (belt h1 o) h2
theorem shl_one {n : Int} (h0 : 0 ≤ n) (h1 : n ≤ 62) : IntKind.i64.wrap (2 ^ n.toNat) = pw n := by
  have hp := pw_pos n
  have hl : pw n ≤ pw 62 := pw_le h1 h0
  have h6 : pw 62 = 4611686018427387904 := by decide
  exact IntWalk.i64_in _ (by unfold pw at *; omega)
theorem shl_one64 {n : Int} (h0 : 0 ≤ n) (h1 : n ≤ 62) : wrap64 (2 ^ n.toNat) = pw n := by
  have hp := pw_pos n
  have hl : pw n ≤ pw 62 := pw_le h1 h0
  have h6 : pw 62 = 4611686018427387904 := by decide
  exact IntWalk.wrap64_in _ (by unfold pw at *; omega)
set_option maxRecDepth 20000 in
theorem rValid_any (r : GR) (w : World) : Calls Try.prog 71 #[r.val] w fun e w' => e = .returned (.bool (vR r)) ∧ Below w.heap.size w w' := by
  by_cases h1 : r.bits < 6
  · have HR : Hid (vR r = false) := Lib.hid (vR_not.2 fun h => by have := h.lo; omega)
    generalize vR r = q at *
    obtain ⟨b, n⟩ := r
    simp only at h1
    unfold GR.val
    go_enter Try.func71, Try.ntmps71
    go_wp2
    go_ret
    exact ⟨congrArg (fun b => Ending.returned (Value.bool b)) HR.out.symm, (Below.refl _ _).alloc (Nat.le_refl _) _⟩
  by_cases h2 : 40 < r.bits
  · have HR : Hid (vR r = false) := Lib.hid (vR_not.2 fun h => by have := h.hi; omega)
    generalize vR r = q at *
    obtain ⟨b, n⟩ := r
    simp only at h1 h2
    unfold GR.val
    go_enter Try.func71, Try.ntmps71
    go_wp2
    go_ret
    exact ⟨congrArg (fun b => Ending.returned (Value.bool b)) HR.out.symm, (Below.refl _ _).alloc (Nat.le_refl _) _⟩
  by_cases h3 : r.base < 0
  · have HR : Hid (vR r = false) := Lib.hid (vR_not.2 fun h => by have := h.b0; omega)
    generalize vR r = q at *
    obtain ⟨b, n⟩ := r
    simp only at h1 h2 h3
    unfold GR.val
    go_enter Try.func71, Try.ntmps71
    go_wp2
    go_ret
    exact ⟨congrArg (fun b => Ending.returned (Value.bool b)) HR.out.symm, (Below.refl _ _).alloc (Nat.le_refl _) _⟩
  by_cases h4 : 1099511627776 ≤ r.base
  · have HR : Hid (vR r = false) := Lib.hid (vR_not.2 fun h => by have := h.top; have := sz_pos r; omega)
    generalize vR r = q at *
    obtain ⟨b, n⟩ := r
    simp only at h1 h2 h3 h4
    unfold GR.val
    go_enter Try.func71, Try.ntmps71
    go_wp2
    go_ret
    exact ⟨congrArg (fun b => Ending.returned (Value.bool b)) HR.out.symm, (Below.refl _ _).alloc (Nat.le_refl _) _⟩
  have HR : Hid (vR r = (decide (r.base % r.sz = 0) && decide (r.base + r.sz ≤ 1099511627776))) := Lib.hid (by
    rw [Bool.eq_iff_iff, vR_iff, Bool.and_eq_true, decide_eq_true_eq, decide_eq_true_eq]
    exact ⟨fun h => ⟨h.al, h.top⟩, fun h => ⟨by omega, by omega, by omega, h.1, h.2⟩⟩)
  have hsz := sz_pos r
  have hsl : r.sz ≤ 1099511627776 := by have h9 : r.sz ≤ pw 40 := pw_le (by omega) (by omega); have : pw 40 = 1099511627776 := by decide
                                        omega
  have hsh : IntKind.i64.wrap (2 ^ r.bits.toNat) = r.sz := shl_one (by omega) (by omega)
  generalize vR r = q at *
  generalize r.sz = z at *
  obtain ⟨b, n⟩ := r
  simp only at h1 h2 h3 h4 HR hsh
  unfold GR.val
  go_enter Try.func71, Try.ntmps71
  go_wp2
  all_goals
    go_ret
    exact ⟨congrArg (fun b => Ending.returned (Value.bool b)) (by rw [HR.out]; simp [*]), (Below.refl _ _).alloc (Nat.le_refl _) _⟩
/-- Two ranges that lie in blocks N and N + 1. -/
def Two (w0 : World) (N : Nat) (a b : GR) (W : World) : Prop := Below N w0 W ∧ N + 1 < W.heap.size ∧ W.cell? ⟨N, 0, none⟩ = some (.int .i64 a.base) ∧ W.cell? ⟨N, 1, none⟩ = some (.int .i64 a.bits) ∧ W.cell? ⟨N + 1, 0, none⟩ = some (.int .i64 b.base) ∧ W.cell? ⟨N + 1, 1, none⟩ = some (.int .i64 b.bits)
theorem Two.next {w0 : World} {N : Nat} {a b : GR} {W W' : World} (h : Two w0 N a b W) (hb : Below W.heap.size W W') : Two w0 N a b W' := by
  obtain ⟨h0, h1, h2, h3, h4, h5⟩ := h
  have hs := hb.size
  exact ⟨h0.trans (hb.mono (by omega)), by omega, (hb.cell (p := ⟨N, 0, none⟩) (by simp; omega)).trans h2, (hb.cell (p := ⟨N, 1, none⟩) (by simp; omega)).trans h3, (hb.cell (p := ⟨N + 1, 0, none⟩) (by simp; omega)).trans h4, (hb.cell (p := ⟨N + 1, 1, none⟩) (by simp; omega)).trans h5⟩
theorem Two.mk (w : World) (a b : GR) (T : TypeId) : Two w w.heap.size a b ((w.alloc (.cells #[.int .i64 a.base, .int .i64 a.bits] T)).alloc (.cells #[.int .i64 b.base, .int .i64 b.bits] T)) := by
  have e : (w.alloc (.cells #[.int .i64 a.base, .int .i64 a.bits] T)).heap.size = w.heap.size + 1 := by simp
  have hb := Below.heap_alloc (w.alloc (.cells #[.int .i64 a.base, .int .i64 a.bits] T)) (.cells #[.int .i64 b.base, .int .i64 b.bits] T) w.heap.size (by omega)
  have h1 := hb.trans (heap_alloc_new w (.cells #[.int .i64 a.base, .int .i64 a.bits] T))
  have h2 := heap_alloc_new (w.alloc (.cells #[.int .i64 a.base, .int .i64 a.bits] T)) (.cells #[.int .i64 b.base, .int .i64 b.bits] T)
  rw [e] at h2
  exact ⟨belt (belt (Below.refl _ w) _) _, by simp, by rw [Lib.cell_of_heap h1]; rfl, by rw [Lib.cell_of_heap h1]; rfl, by rw [Lib.cell_of_heap h2]; rfl, by rw [Lib.cell_of_heap h2]; rfl⟩
end Go.Proofs.Ytnoegjfokceghaa
