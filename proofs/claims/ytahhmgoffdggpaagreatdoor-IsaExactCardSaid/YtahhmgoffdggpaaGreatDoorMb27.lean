/-
  isa.Disassemble, at a valid program.
  Conditions: the tables lie as the program's start lays them.
  The reference's table of operations and their operands.
  Conditions: none.
  The contract of the kit's Next: a number from 0 to n - 1; the counter goes up by one.
  Conditions: n is from 1 to 2^30; the counter is at most 100000.
-/
import Derived.Test.YtahhmgoffdggpaaGreatDoorMb26
import Derived.Test.YtahhmgoffdggpaaGreatDoorMb23
import Derived.Test.YtahhmgoffdggpaaGreatDoorMb3
import Derived.Test.YtahhmgoffdggpaaGreatDoorMb7
import Derived.Deep.MidRow
import Derived.Deep.WholeRow
import Derived.Test.YtahhmgoffdggpaaGreatDoorMb5
import Derived.RegionTactic
import Derived.Deep.QuietTactic
import Derived.BigQuiet
namespace Go.Proofs.YtahhmgoffdggpaaGreatDoor

open Go.RowKit Go.Shelf

def joinW (ws : List (List UInt8)) : List UInt8 := Lib.join ws [44, 32]
theorem sjoin_any (ws : List (List UInt8)) (v : Value) (base : Nat) (w : World) (h : OwnG encW 9 1 w base v ws) (hne : 0 < ws.length) (hl : ws.length ≤ 10) (hlen : (joinW ws).length ≤ 1000) :
    Calls Tryz.prog 28 #[v, .string ⟨#[44, 32]⟩] w fun e w' => e = .returned (.string ⟨(joinW ws).toArray⟩) ∧ Below w.heap.size w w' := by
  obtain ⟨A, cap, rfl, hcap, _, hrow⟩ := h.row encW_len
  obtain ⟨b, off, rfl, hb, hc⟩ := hrow hne
  have e : (ws.map fun l => (⟨l.toArray⟩ : ByteArray)).map (·.data.toList) = ws := by simp [List.map_map, Function.comp_def]
  have h := Tryz.strings_Join b off cap (ws.map fun l => ⟨l.toArray⟩) ⟨#[44, 32]⟩ w (fun j x hx => by
    rw [List.getElem?_map] at hx
    obtain ⟨y, hy, rfl⟩ := Option.map_eq_some_iff.1 hx
    obtain ⟨hj, rfl⟩ := List.getElem?_eq_some_iff.1 hy
    have := hc j hj 0 (.string ⟨(ws[j]).toArray⟩) rfl
    simpa using this) hb (by simp; omega) (by simpa using hcap) (by rw [e]; show (joinW ws).length ≤ _; omega)
  rw [e] at h
  simpa [joinW] using h
/-- The text of one instruction, and of what stands before it. -/
def preD (ps : List GIns) (k : Nat) : List UInt8 := if tgt ps k = true then labW k ++ [58, 32] else []
def insD (x : GIns) : List UInt8 := (fmtN x.op.toNat).1 ++ ((if 0 < (opW x).length then 32 :: joinW (opW x) else []) ++ [59, 10])
def disF (ps : List GIns) (k : Nat) : List UInt8 := (List.range k).flatMap fun i => preD ps i ++ insD (ps.getD i ⟨0, 0, 0, 0, 0⟩)
theorem disF_succ (ps : List GIns) (k : Nat) (h : k < ps.length) : disF ps (k + 1) = disF ps k ++ (preD ps k ++ insD ps[k]) := by
  unfold disF
  rw [List.range_succ, List.flatMap_append]
  simp [List.getD_eq_getElem?_getD, List.getElem?_eq_getElem h]
structure InsD (x : GIns) : Prop where
  regs : 0 ≤ x.a ∧ x.a < 16 ∧ 0 ≤ x.b ∧ x.b < 16 ∧ 0 ≤ x.c ∧ x.c < 16
theorem ins_regs {x : GIns} {n : Nat} (h : chkI x n = 0) : InsD x := by
  unfold chkI at h
  by_cases h0 : x.op < 0 ∨ 28 ≤ x.op
  · rw [if_pos h0] at h; omega
  · rw [if_neg h0] at h
    unfold chkF at h
    generalize (fmtN x.op.toNat).2.1 = f at h
    by_cases h1 : (regB f 0 x.a && regB f 1 x.b && regB f 2 x.c) = false
    · rw [if_pos h1] at h; omega
    · have h2 : (regB f 0 x.a && regB f 1 x.b && regB f 2 x.c) = true := by
        cases hq : (regB f 0 x.a && regB f 1 x.b && regB f 2 x.c)
        · exact absurd hq h1
        · rfl
      simp only [regB, Bool.and_eq_true, decide_eq_true_eq] at h2
      obtain ⟨⟨⟨⟨a1, a2⟩, _⟩, ⟨⟨b1, b2⟩, _⟩⟩, ⟨⟨c1, c2⟩, _⟩⟩ := h2
      exact ⟨by omega⟩
theorem joinW_cons (x y : List UInt8) (r : List (List UInt8)) : joinW (x :: y :: r) = x ++ ([44, 32] ++ joinW (y :: r)) := by
  simp [joinW, Lib.join, List.intercalate, List.intersperse]
theorem joinW_len : ∀ (ws : List (List UInt8)), (∀ l ∈ ws, l.length ≤ 22) → (joinW ws).length ≤ 24 * ws.length
  | [], _ => by simp [joinW, Lib.join_nil]
  | [x], h => by
    have := h x (by simp)
    simp [joinW, Lib.join_one]; omega
  | x :: y :: r, h => by
    have h1 := h x (by simp)
    have h2 := joinW_len (y :: r) (fun l hl => h l (List.mem_cons_of_mem _ hl))
    rw [joinW_cons]
    simp only [List.length_append, List.length_cons, List.length_nil] at h2 ⊢
    omega
theorem regW_short (n : Nat) : (regW n).length ≤ 22 := by unfold regW; split <;> simp
theorem opW_short (x : GIns) (hi : ImmOk x) : (opW x).length ≤ 4 ∧ ∀ l ∈ opW x, l.length ≤ 22 := by
  have hit := Lib.itoa_length_le x.imm (by have := hi.1; omega) (by have := hi.2; omega)
  have himm : ∀ fi, (immW fi x).length ≤ 1 ∧ ∀ l ∈ immW fi x, l.length ≤ 22 := fun fi => by
    unfold immW
    split
    · exact ⟨by simp, fun l hl => by simp at hl; subst hl; omega⟩
    · split
      · exact ⟨by simp, fun l hl => by simp at hl; subst hl; simp [labW]; omega⟩
      · exact ⟨by simp, fun l hl => by simp at hl⟩
  have hreg : ∀ f, (regsW f x).length ≤ 3 ∧ ∀ l ∈ regsW f x, l.length ≤ 22 := fun f => by
    unfold regsW
    refine ⟨by rw [List.length_take]; simp; omega, fun l hl => ?_⟩
    have := List.mem_of_mem_take hl
    simp at this
    rcases this with rfl | rfl | rfl <;> exact regW_short _
  unfold opW
  refine ⟨by rw [List.length_append]; have := (hreg (fmtN x.op.toNat).2.1).1; have := (himm (fmtN x.op.toNat).2.2).1; omega, fun l hl => ?_⟩
  rcases List.mem_append.1 hl with h | h
  · exact (hreg _).2 l h
  · exact (himm _).2 l h
theorem fmt_short (k : Nat) : (fmtN k).1.length ≤ 10 := by
  rcases Nat.lt_or_ge k 28 with h | h
  · have : ∀ k : Fin 28, (fmtN k).1.length ≤ 10 := by decide +kernel
    exact this ⟨k, h⟩
  · unfold fmtN
    rw [List.getD_eq_getElem?_getD, List.getElem?_eq_none (by show 28 ≤ k; exact h)]; simp
theorem insD_len (x : GIns) (hi : ImmOk x) : (insD x).length ≤ 120 := by
  obtain ⟨h1, h2⟩ := opW_short x hi
  have h3 := joinW_len _ h2
  have h4 := fmt_short x.op.toNat
  unfold insD
  simp only [List.length_append, List.length_cons, List.length_nil]
  split <;> simp <;> omega
theorem preD_len (ps : List GIns) (k : Nat) (hk : k ≤ 4096) : (preD ps k).length ≤ 24 := by
  have hit := Lib.itoa_length_le (k : Int) (by omega) (by omega)
  unfold preD
  split
  · simp [labW]; omega
  · simp
theorem disF_len (ps : List GIns) (hi : ∀ x ∈ ps, ImmOk x) (hn : ps.length ≤ 4096) : ∀ k, k ≤ ps.length → (disF ps k).length ≤ 144 * k
  | 0, _ => by simp [disF]
  | k + 1, h => by
    rw [disF_succ ps k (by omega)]
    have h1 := disF_len ps hi hn k (by omega)
    have h2 := preD_len ps k (by omega)
    have h3 := insD_len ps[k] (hi _ (List.getElem_mem _))
    simp only [List.length_append]; omega
end Go.Proofs.YtahhmgoffdggpaaGreatDoor


namespace Go.Proofs.YtahhmgoffdggpaaGreatDoor

open Go.RowKit

/-- The operands of an operation: a, b, c for registers, i for an immediate, t for a target. -/
def opsL (k : Nat) : List UInt8 := ([97, 98, 99] : List UInt8).take (fmtN k).2.1 ++ (if (fmtN k).2.2 = 1 then [105] else if (fmtN k).2.2 = 2 then [116] else [])
def tabV : Array Value := #[.string ⟨#[104, 97, 108, 116]⟩, .string ⟨#[]⟩, .string ⟨#[108, 105]⟩, .string ⟨#[97, 105]⟩, .string ⟨#[108, 105, 104]⟩, .string ⟨#[97, 105]⟩, .string ⟨#[109, 111, 118]⟩, .string ⟨#[97, 98]⟩, .string ⟨#[97, 100, 100]⟩, .string ⟨#[97, 98, 99]⟩, .string ⟨#[115, 117, 98]⟩, .string ⟨#[97, 98, 99]⟩, .string ⟨#[109, 117, 108]⟩, .string ⟨#[97, 98, 99]⟩, .string ⟨#[100, 105, 118]⟩, .string ⟨#[97, 98, 99]⟩, .string ⟨#[114, 101, 109]⟩, .string ⟨#[97, 98, 99]⟩, .string ⟨#[97, 110, 100]⟩, .string ⟨#[97, 98, 99]⟩, .string ⟨#[111, 114]⟩, .string ⟨#[97, 98, 99]⟩, .string ⟨#[120, 111, 114]⟩, .string ⟨#[97, 98, 99]⟩, .string ⟨#[115, 104, 108]⟩, .string ⟨#[97, 98, 99]⟩, .string ⟨#[115, 104, 114]⟩, .string ⟨#[97, 98, 99]⟩, .string ⟨#[97, 100, 100, 105]⟩, .string ⟨#[97, 98, 105]⟩, .string ⟨#[115, 108, 116]⟩, .string ⟨#[97, 98, 99]⟩, .string ⟨#[115, 108, 116, 117]⟩, .string ⟨#[97, 98, 99]⟩, .string ⟨#[115, 101, 113]⟩, .string ⟨#[97, 98, 99]⟩, .string ⟨#[106, 109, 112]⟩, .string ⟨#[116]⟩, .string ⟨#[98, 101, 113, 122]⟩, .string ⟨#[97, 116]⟩, .string ⟨#[98, 110, 101, 122]⟩, .string ⟨#[97, 116]⟩, .string ⟨#[106, 97, 108]⟩, .string ⟨#[97, 116]⟩, .string ⟨#[106, 114]⟩, .string ⟨#[97]⟩, .string ⟨#[108, 100]⟩, .string ⟨#[97, 98, 105]⟩, .string ⟨#[115, 116]⟩, .string ⟨#[97, 98, 105]⟩, .string ⟨#[115, 121, 115]⟩, .string ⟨#[105]⟩, .string ⟨#[121, 105, 101, 108, 100]⟩, .string ⟨#[]⟩, .string ⟨#[110, 111, 112]⟩, .string ⟨#[]⟩]
theorem wpList_known {P : Program} {ops : Array Oper} {rest : List Oper} {o : Oper} {a : Act} {Q : Exit → Act → World → Prop} {w : World} {v : Value} (hg : o.guard = none) (hr : (execOp a.eval o).run P w = .ok (.value v) w) (h : wpList P ops Q rest (a.put o.dst v) w) : wpList P ops Q (o :: rest) a w :=
  wpList_plain hg fun K hK => by unfold Oper.wp; rw [hr]; exact hK _ _ h
theorem wpList_store_known {P : Program} {ops : Array Oper} {rest : List Oper} {o : Oper} {a : Act} {Q : Exit → Act → World → Prop} {w w' : World} {p v : Value} {t : TypeId} {x y : Operand} (hg : o.guard = none) (ho : o.op = .store t x y) (hx : a.eval x = p) (hy : a.eval y = v) (hr : (Instr.storeAt t p v).run P w = .ok () w') (h : wpList P ops Q rest (a.put o.dst undef) w') : wpList P ops Q (o :: rest) a w :=
  wpList_plain hg fun K hK => by
    unfold Oper.wp
    simp only [execOp, ho, hx, hy, Sem.run_bind, hr, Result.andThen, Sem.run_pure]
    exact hK _ _ h
def tabZ : Array Value := #[.string ⟨#[]⟩, .string ⟨#[]⟩, .string ⟨#[]⟩, .string ⟨#[]⟩, .string ⟨#[]⟩, .string ⟨#[]⟩, .string ⟨#[]⟩, .string ⟨#[]⟩, .string ⟨#[]⟩, .string ⟨#[]⟩, .string ⟨#[]⟩, .string ⟨#[]⟩, .string ⟨#[]⟩, .string ⟨#[]⟩, .string ⟨#[]⟩, .string ⟨#[]⟩, .string ⟨#[]⟩, .string ⟨#[]⟩, .string ⟨#[]⟩, .string ⟨#[]⟩, .string ⟨#[]⟩, .string ⟨#[]⟩, .string ⟨#[]⟩, .string ⟨#[]⟩, .string ⟨#[]⟩, .string ⟨#[]⟩, .string ⟨#[]⟩, .string ⟨#[]⟩, .string ⟨#[]⟩, .string ⟨#[]⟩, .string ⟨#[]⟩, .string ⟨#[]⟩, .string ⟨#[]⟩, .string ⟨#[]⟩, .string ⟨#[]⟩, .string ⟨#[]⟩, .string ⟨#[]⟩, .string ⟨#[]⟩, .string ⟨#[]⟩, .string ⟨#[]⟩, .string ⟨#[]⟩, .string ⟨#[]⟩, .string ⟨#[]⟩, .string ⟨#[]⟩, .string ⟨#[]⟩, .string ⟨#[]⟩, .string ⟨#[]⟩, .string ⟨#[]⟩, .string ⟨#[]⟩, .string ⟨#[]⟩, .string ⟨#[]⟩, .string ⟨#[]⟩, .string ⟨#[]⟩, .string ⟨#[]⟩, .string ⟨#[]⟩, .string ⟨#[]⟩]
set_option maxRecDepth 50000 in
set_option maxHeartbeats 2000000 in
theorem table_any (w : World) : Calls Tryz.prog 31 #[] w fun e w' => e = .returned (.agg tabV) ∧ Below w.heap.size w w' := by
  have hsz : (Tryz.prog.info? 72).map (·.size) = some tabV.size := by kernel_rfl
  have hst := run_storeAt_new (P := Tryz.prog) w 72 tabZ tabV hsz rfl (by kernel_rfl)
  have hlv := run_loadVar_new (P := Tryz.prog) w 72 tabV _ _ Tryz.underlying72 hsz
  go_enter Tryz.func31, Tryz.ntmps31
  go_upto_region 1 with fail
  refine wp_region_lit ?_
  refine wpList_known (v := .agg #[.string ⟨#[104, 97, 108, 116]⟩, .string ⟨#[]⟩]) rfl (by kernel_rfl) ?_
  refine wpList_known (v := .agg #[.string ⟨#[108, 105]⟩, .string ⟨#[97, 105]⟩]) rfl (by kernel_rfl) ?_
  refine wpList_known (v := .agg #[.string ⟨#[108, 105, 104]⟩, .string ⟨#[97, 105]⟩]) rfl (by kernel_rfl) ?_
  refine wpList_known (v := .agg #[.string ⟨#[109, 111, 118]⟩, .string ⟨#[97, 98]⟩]) rfl (by kernel_rfl) ?_
  refine wpList_known (v := .agg #[.string ⟨#[97, 100, 100]⟩, .string ⟨#[97, 98, 99]⟩]) rfl (by kernel_rfl) ?_
  refine wpList_known (v := .agg #[.string ⟨#[115, 117, 98]⟩, .string ⟨#[97, 98, 99]⟩]) rfl (by kernel_rfl) ?_
  refine wpList_known (v := .agg #[.string ⟨#[109, 117, 108]⟩, .string ⟨#[97, 98, 99]⟩]) rfl (by kernel_rfl) ?_
  refine wpList_known (v := .agg #[.string ⟨#[100, 105, 118]⟩, .string ⟨#[97, 98, 99]⟩]) rfl (by kernel_rfl) ?_
  refine wpList_known (v := .agg #[.string ⟨#[114, 101, 109]⟩, .string ⟨#[97, 98, 99]⟩]) rfl (by kernel_rfl) ?_
  refine wpList_known (v := .agg #[.string ⟨#[97, 110, 100]⟩, .string ⟨#[97, 98, 99]⟩]) rfl (by kernel_rfl) ?_
  refine wpList_known (v := .agg #[.string ⟨#[111, 114]⟩, .string ⟨#[97, 98, 99]⟩]) rfl (by kernel_rfl) ?_
  refine wpList_known (v := .agg #[.string ⟨#[120, 111, 114]⟩, .string ⟨#[97, 98, 99]⟩]) rfl (by kernel_rfl) ?_
  refine wpList_known (v := .agg #[.string ⟨#[115, 104, 108]⟩, .string ⟨#[97, 98, 99]⟩]) rfl (by kernel_rfl) ?_
  refine wpList_known (v := .agg #[.string ⟨#[115, 104, 114]⟩, .string ⟨#[97, 98, 99]⟩]) rfl (by kernel_rfl) ?_
  refine wpList_known (v := .agg #[.string ⟨#[97, 100, 100, 105]⟩, .string ⟨#[97, 98, 105]⟩]) rfl (by kernel_rfl) ?_
  refine wpList_known (v := .agg #[.string ⟨#[115, 108, 116]⟩, .string ⟨#[97, 98, 99]⟩]) rfl (by kernel_rfl) ?_
  refine wpList_known (v := .agg #[.string ⟨#[115, 108, 116, 117]⟩, .string ⟨#[97, 98, 99]⟩]) rfl (by kernel_rfl) ?_
  refine wpList_known (v := .agg #[.string ⟨#[115, 101, 113]⟩, .string ⟨#[97, 98, 99]⟩]) rfl (by kernel_rfl) ?_
  refine wpList_known (v := .agg #[.string ⟨#[106, 109, 112]⟩, .string ⟨#[116]⟩]) rfl (by kernel_rfl) ?_
  refine wpList_known (v := .agg #[.string ⟨#[98, 101, 113, 122]⟩, .string ⟨#[97, 116]⟩]) rfl (by kernel_rfl) ?_
  refine wpList_known (v := .agg #[.string ⟨#[98, 110, 101, 122]⟩, .string ⟨#[97, 116]⟩]) rfl (by kernel_rfl) ?_
  refine wpList_known (v := .agg #[.string ⟨#[106, 97, 108]⟩, .string ⟨#[97, 116]⟩]) rfl (by kernel_rfl) ?_
  refine wpList_known (v := .agg #[.string ⟨#[106, 114]⟩, .string ⟨#[97]⟩]) rfl (by kernel_rfl) ?_
  refine wpList_known (v := .agg #[.string ⟨#[108, 100]⟩, .string ⟨#[97, 98, 105]⟩]) rfl (by kernel_rfl) ?_
  refine wpList_known (v := .agg #[.string ⟨#[115, 116]⟩, .string ⟨#[97, 98, 105]⟩]) rfl (by kernel_rfl) ?_
  refine wpList_known (v := .agg #[.string ⟨#[115, 121, 115]⟩, .string ⟨#[105]⟩]) rfl (by kernel_rfl) ?_
  refine wpList_known (v := .agg #[.string ⟨#[121, 105, 101, 108, 100]⟩, .string ⟨#[]⟩]) rfl (by kernel_rfl) ?_
  refine wpList_known (v := .agg #[.string ⟨#[110, 111, 112]⟩, .string ⟨#[]⟩]) rfl (by kernel_rfl) ?_
  refine wpList_known (v := .agg tabV) rfl (by kernel_rfl) ?_
  refine wpList_store_known (p := .pointer (some ⟨w.heap.size, 0, none⟩)) (v := .agg tabV) rfl rfl (by kernel_rfl) (by kernel_rfl) hst ?_
  refine wpList_nil ?_
  generalize hact : Act.put _ _ _ = act
  have h0 : act.tmps.getD 0 undef = .pointer (some ⟨w.heap.size, 0, none⟩) ∧ act.defers = [] := by rw [← hact]; exact ⟨by kernel_rfl, by kernel_rfl⟩
  clear hact
  obtain ⟨tm, df⟩ := act
  obtain ⟨h0, h1⟩ := h0
  simp only at h0 h1
  subst h1
  go_wp2
  refine bodyPost_ret (v := .agg tabV) (results_cell_row Tryz.results31 tm _ w.heap.size 72 tabV (0, 0) _ h0 (heap_alloc_last w _) Tryz.underlying72 rfl hsz) rfl ⟨rfl, (Below.refl _ _).alloc (Nat.le_refl _) _⟩
theorem tab_index : ∀ (k : Nat) (_ : k < 28) (W : World), (Instr.index 72 (.agg tabV) (.int .i64 k)).run Tryz.prog W = .ok (.agg #[.string ⟨(fmtN k).1.toArray⟩, .string ⟨(opsL k).toArray⟩]) W
  | 0, _ => fun W => by kernel_rfl
  | 1, _ => fun W => by kernel_rfl
  | 2, _ => fun W => by kernel_rfl
  | 3, _ => fun W => by kernel_rfl
  | 4, _ => fun W => by kernel_rfl
  | 5, _ => fun W => by kernel_rfl
  | 6, _ => fun W => by kernel_rfl
  | 7, _ => fun W => by kernel_rfl
  | 8, _ => fun W => by kernel_rfl
  | 9, _ => fun W => by kernel_rfl
  | 10, _ => fun W => by kernel_rfl
  | 11, _ => fun W => by kernel_rfl
  | 12, _ => fun W => by kernel_rfl
  | 13, _ => fun W => by kernel_rfl
  | 14, _ => fun W => by kernel_rfl
  | 15, _ => fun W => by kernel_rfl
  | 16, _ => fun W => by kernel_rfl
  | 17, _ => fun W => by kernel_rfl
  | 18, _ => fun W => by kernel_rfl
  | 19, _ => fun W => by kernel_rfl
  | 20, _ => fun W => by kernel_rfl
  | 21, _ => fun W => by kernel_rfl
  | 22, _ => fun W => by kernel_rfl
  | 23, _ => fun W => by kernel_rfl
  | 24, _ => fun W => by kernel_rfl
  | 25, _ => fun W => by kernel_rfl
  | 26, _ => fun W => by kernel_rfl
  | 27, _ => fun W => by kernel_rfl
  | n + 28, h => absurd h (by omega)
theorem pair_index (a b : Value) (W : World) : (Instr.index 71 (.agg #[a, b]) (.int .i64 1)).run Tryz.prog W = .ok b W := by kernel_rfl
theorem operands_ref (k : Nat) (hk : k < 28) (w : World) : Calls Tryz.prog 32 #[.int .i64 k] w fun e w' => e = .returned (.string ⟨(opsL k).toArray⟩) ∧ Below w.heap.size w w' := by
  have HT := Lib.hid fun W => table_any W
  have HI := tab_index k hk
  have hp := pair_index (.string ⟨(fmtN k).1.toArray⟩) (.string ⟨(opsL k).toArray⟩)
  generalize tabV = tv at *
  generalize opsL k = ol at *
  generalize (fmtN k).1 = fs at *
  go_enter Tryz.func32, Tryz.ntmps32
  go_wp2_with fail
  go_fit (HT.out _)
  rintro e w1 ⟨rfl, hb1⟩
  have HB := Lib.hid hb1
  clear hb1
  go_wp2
  go_ret
  exact ⟨rfl, HB.out⟩
end Go.Proofs.YtahhmgoffdggpaaGreatDoor


namespace Go.Proofs.YtahhmgoffdggpaaGreatDoor

open Go.RowKit Go.Shelf

/-- A slice of ints that is read. -/
structure IRow (w : World) (B : Nat) (A : Option Addr) (len cap : Nat) (zs : List Int) : Prop where
  count : zs.length = len
  le : len ≤ cap
  max : cap ≤ 9223372036854775807
  row : 0 < len → ∃ b off, A = some ⟨b, off, none⟩ ∧ b < B ∧ ∀ i, i < len → w.cell? ⟨b, off + i, none⟩ = some (.int .i64 (zs.getD i 0))
  wf : ∀ z ∈ zs, (Lit.int .i64 z).wf = true
theorem IRow.below {w w' : World} {B B' : Nat} {A : Option Addr} {len cap : Nat} {zs : List Int} (h : IRow w B A len cap zs) (hB : B ≤ B') (hb : Below B' w w') : IRow w' B A len cap zs :=
  ⟨h.count, h.le, h.max, fun hn => by
    obtain ⟨b, off, e, hlt, hc⟩ := h.row hn
    exact ⟨b, off, e, hlt, fun i hi => (hb.cell (p := ⟨b, off + i, none⟩) (by show b < B'; omega)).trans (hc i hi)⟩, h.wf⟩

def placeI (v n : Int) : Int := if v.tmod n < 0 then v.tmod n + n else v.tmod n
theorem placeI_bd (v n : Int) (h : 0 < n) : 0 ≤ placeI v n ∧ placeI v n < n := by
  have hb1 : v.tmod n < n := Int.tmod_lt_of_pos v h
  have hb2 : -n < v.tmod n := Int.lt_tmod_of_pos v h
  unfold placeI; split <;> omega
def NextEnd (b k n : Nat) (w : World) (e : Ending) (w' : World) : Prop := ∃ r : Nat, r < n ∧ e = .returned (.int .i64 r) ∧ ∃ m, w' = (w.drewN m).setCell ⟨b, 1, none⟩ (.int .i64 ((k : Int) + 1))
end Go.Proofs.YtahhmgoffdggpaaGreatDoor
