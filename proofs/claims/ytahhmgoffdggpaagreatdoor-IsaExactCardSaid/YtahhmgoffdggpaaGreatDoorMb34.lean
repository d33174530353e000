/-
  A region that leaves its order open, walked in one written order under a condition that every later world keeps.
  Conditions: as each theorem says.
  The reference's uses and register, for whatever operand; a block that holds an instruction.
  Conditions: as each theorem says.
  What a spoilt program's errors are; Disassemble at a program with an error.
  Conditions: the listed variables lie as the program's start lays them.
-/
import Derived.Test.YtahhmgoffdggpaaGreatDoorMb3
import Derived.Test.YtahhmgoffdggpaaGreatDoorMb33
import Derived.Test.YtahhmgoffdggpaaGreatDoorMb21
import Derived.Test.YtahhmgoffdggpaaGreatDoorMb28
namespace Go.Proofs.YtahhmgoffdggpaaGreatDoor

open Go.RowKit

section

variable {P : Program} {ops : Array Oper} {Q : Exit → Act → World → Prop} {md : Region.Mode} {S : World → Prop}

/-- The walk in one order, S kept by all. -/
def wpGrowS (P : Program) (ops : Array Oper) (Q : Exit → Act → World → Prop) (S : World → Prop) : List (Nat × Bool) → Act → World → Prop
  | [], a, w => Q .normal a w
  | (i, true) :: rest, a, w => ∃ oi v, ops[i]? = some oi ∧ YieldsIf P ops S oi v a ∧ wpGrowS P ops Q S rest (a.put oi.dst v) w
  | (i, false) :: rest, a, w => wpOp P ops Q i (fun a' w' => S w' ∧ wpGrowS P ops Q S rest a' w') a w
theorem growS_sound (hs : Region.noSelect ops = true) (hQ : ∀ c a d v w, Q (.panic c) (Act.put a d v) w → Q (.panic c) a w) : ∀ (ord : List (Nat × Bool)) (listed : Array Bool) (a : Act) (w : World),
    growOk md ops ord listed = true → S w → wpGrowS P ops Q S ord a w → wpAnyH P md ops Q S ord.length listed a w
  | [], listed, a, w, hok, _, h => wpAnyH_done (by simpa [growOk] using hok) h 0
  | (i, true) :: rest, listed, a, w, hok, hS, h => by
    simp only [growOk, Bool.and_eq_true] at hok
    obtain ⟨oi, v, hi, hy, h⟩ := h
    exact wpAnyH_take hi hs hok.1.2 hok.1.1 (fun c a w => hQ c a _ _ w) hy hS (growS_sound hs hQ rest _ _ _ hok.2 hS h)
  | (i, false) :: rest, listed, a, w, hok, hS, h => by
    simp only [growOk, Bool.and_eq_true, beq_iff_eq] at hok
    refine wpAnyH_all hok.1 (by simp) fun j hj => ?_
    obtain rfl : j = i := by simpa using hj
    exact wpOp_mono (fun a' w' h' => ⟨h'.1, growS_sound hs hQ rest _ _ _ hok.2 h'.1 h'.2⟩) h
theorem wp_region_growS {id : Nat} {a : Act} {w : World} (ord : List (Nat × Bool)) (hm : P.follows .mixedOrders = true) (hs : Region.noSelect ops = true)
    (hok : growOk .any ops ord (Array.replicate ops.size false) = true) (hn : ord.length = ops.size) (hQ : ∀ c a d v w, Q (.panic c) (Act.put a d v) w → Q (.panic c) a w)
    (hS : S w.drew) (h : wpGrowS P ops Q S ord a w.drew) : (Code.region id ops true).wp P Q a w := by
  have h1 := growS_sound hs hQ ord _ a w.drew hok hS h
  rw [hn] at h1
  exact wp_region_held hm h1
theorem wpGrowS_nil {a : Act} {w : World} (h : Q .normal a w) : wpGrowS P ops Q S [] a w := h
theorem wpGrowS_float {i : Nat} {oi : Oper} {v : Value} {rest : List (Nat × Bool)} {a : Act} {w : World} (hi : ops[i]? = some oi) (hw : Region.wanted oi (yielded ops a.tmps) = true)
    (hy : ∀ w', S w' → (execOp a.eval oi).run P w' = .ok (.value v) w') (h : wpGrowS P ops Q S rest (a.put oi.dst v) w) : wpGrowS P ops Q S ((i, true) :: rest) a w :=
  ⟨oi, v, hi, .inl ⟨hw, hy⟩, h⟩
theorem wpGrowS_skip {i : Nat} {oi : Oper} {rest : List (Nat × Bool)} {a : Act} {w : World} (hi : ops[i]? = some oi) (hw : Region.wanted oi (yielded ops a.tmps) = false)
    (h : wpGrowS P ops Q S rest (a.put oi.dst undef) w) : wpGrowS P ops Q S ((i, true) :: rest) a w :=
  ⟨oi, undef, hi, .inr ⟨hw, rfl⟩, h⟩
theorem wpGrowS_pass {i : Nat} {oi : Oper} {rest : List (Nat × Bool)} {a : Act} {w : World} (hS : S w) (hi : ops[i]? = some oi) (hw : Region.wanted oi (yielded ops a.tmps) = false)
    (h : wpGrowS P ops Q S rest (a.put oi.dst undef) w) : wpGrowS P ops Q S ((i, false) :: rest) a w := by
  show wpOp P ops Q i _ a w
  unfold wpOp
  simp only [hi, hw]
  exact ⟨hS, h⟩
theorem wpGrowS_call {i : Nat} {oi : Oper} {rest : List (Nat × Bool)} {a : Act} {w : World} (hi : ops[i]? = some oi) (hw : Region.wanted oi (yielded ops a.tmps) = true)
    (h : ∀ K : Act → World → Prop, (∀ a' w', S w' → wpGrowS P ops Q S rest a' w' → K a' w') → oi.wp P a w K Q) : wpGrowS P ops Q S ((i, false) :: rest) a w := by
  show wpOp P ops Q i _ a w
  unfold wpOp
  simp only [hi, hw, if_true]
  exact .inl (h _ fun a' w' h1 h2 => ⟨h1, h2⟩)
end

/-- An append whose run is known by what it leaves, asx one operation. -/
theorem oper_app10 {S : TypeId} {o : Oper} {a : Act} {K : Act → World → Prop} {Q : Exit → Act → World → Prop} {v y : Value} {W : World} {R : Value → World → Prop}
    (H : ∃ v' w', (Builtin.append_ #[S, S] S #[v, y]).run Tryz.prog W = .ok v' w' ∧ R v' w') {s x : Operand}
    (ho : o.op = .call { callee := .builtin .append, args := #[s, x], argTypes := #[S, S] }) (hty : o.type = S) (hs : a.eval s = v) (hx : a.eval x = y)
    (h : ∀ v' w', R v' w' → K (a.put o.dst v') w') : Oper.wp Tryz.prog o a W K Q := by
  obtain ⟨v', w', hr, h2⟩ := H
  unfold Oper.wp execOp
  simp only [ho, hty, resolve, invoke, builtin, Sem.run_bind, Sem.run_pure, Result.andThen_ok, List.map_toArray, List.map_cons, List.map_nil, hs, hx, hr]
  exact h _ _ h2
end Go.Proofs.YtahhmgoffdggpaaGreatDoor


namespace Go.Proofs.YtahhmgoffdggpaaGreatDoor
open Go.RowKit Go.Shelf

theorem beln {w w1 w2 : World} (h1 : Below w.heap.size w w1) (h2 : Below w1.heap.size w1 w2) : Below w.heap.size w w2 := h1.trans (h2.mono h1.size)
theorem belt {w w1 : World} (h1 : Below w.heap.size w w1) (o : Obj) : Below w.heap.size w (w1.alloc o) := h1.alloc h1.size o
def useG (k : Nat) (c : Nat) : Bool := decide (UInt8.ofNat c ∈ opsL k)
set_option maxRecDepth 50000 in
set_option maxHeartbeats 1000000 in
theorem usesN_any (k : Nat) (hk : k < 28) (c : Nat) (hc : c < 256) (w : World) : Calls Tryz.prog 22 #[.int .i64 k, .int .u8 (c : Int)] w fun e w' => e = .returned (.bool (useG k c)) ∧ Below w.heap.size w w' := by
  have HO := Lib.hid (operands_ref k hk w)
  have HL := Lib.hid (ops_short hk)
  have HQ : Hid (decide (UInt8.ofNat c ∈ opsL k) = useG k c) := Lib.hid rfl
  have hcc : (UInt8.ofNat c).toNat = c := by rw [UInt8.toNat_ofNat']; omega
  generalize useG k c = q at *
  generalize opsL k = l at *
  generalize hch : UInt8.ofNat c = ch at *
  have HCC := Lib.hid hcc
  clear hcc hch
  go_enter Tryz.func22, Tryz.ntmps22
  go_wp2_with fail
  go_fit HO.out
  rintro e w1 ⟨rfl, hb1⟩
  have HB1 := Lib.hid hb1
  clear hb1 HO
  have hsz : (⟨l.toArray⟩ : ByteArray).size = l.length := ba_size l
  have hl5 := HL.out
  go_wp2
  go_loopw [6] (fun vi wr => ∃ i : Nat, vi = .int .i64 i ∧ i ≤ l.length ∧ wr = w1 ∧ Hid (∀ j, j < i → ∀ h : j < l.length, l[j] ≠ ch)) (fun vi _ => l.length - (intOf vi).toNat)
  case atStart => exact ⟨0, rfl, Nat.zero_le _, rfl, Lib.hid fun j hj => absurd hj (by omega)⟩
  case round =>
    obtain ⟨i, rfl, hi, rfl, HN⟩ := hrel
    rcases Nat.lt_or_ge i l.length with hlt | hge
    · have hix := fun W => str_index l i hlt W
      by_cases hc : l[i] = ch
      · have HF : Hid (q = true) := Lib.hid (by rw [← HQ.out, decide_eq_true_eq]; rw [← hc]; exact List.getElem_mem hlt)
        have g0 : (((l[i].toNat : Nat) : Int) == (c : Int)) = true := by rw [hc, HCC.out]; simp
        clear hc
        go_wp2
        go_ret
        exact ⟨congrArg (fun b => Ending.returned (Value.bool b)) HF.out.symm, HB1.out⟩
      · have HN2 : Hid (∀ j, j < i + 1 → ∀ h : j < l.length, l[j] ≠ ch) := Lib.hid fun j hj h => by
          rcases Nat.lt_or_ge j i with h1 | h1
          · exact HN.out j h1 h
          · obtain rfl : j = i := by omega
            exact hc
        have g0 : (((l[i].toNat : Nat) : Int) == (c : Int)) = false := by
          have : l[i].toNat ≠ c := fun e => hc (UInt8.toNat_inj.1 (e.trans HCC.out.symm))
          simp; omega
        clear hc HN
        go_wp2
        go_roundw
        case rel => exact ⟨i + 1, by go_num, by omega, by first | rfl | trivial, HN2⟩
        case measure => simp [intOf]; omega
    · have HF : Hid (q = false) := Lib.hid (by
        rw [← HQ.out, decide_eq_false_iff_not]
        intro hm
        obtain ⟨j, hj, e⟩ := List.getElem_of_mem hm
        exact HN.out j (by omega) hj e)
      go_wp2
      go_ret
      exact ⟨congrArg (fun b => Ending.returned (Value.bool b)) HF.out.symm, HB1.out⟩
def rgB (v : Int) (u : Bool) : Bool := decide (v = 0) || (u && (decide (0 < v) && decide (v < 16)))
theorem rRegI_any (v : Int) (u : Bool) (w : World) : Calls Tryz.prog 21 #[.int .i64 v, .bool u] w fun e w' => e = .returned (.bool (rgB v u)) ∧ Below w.heap.size w w' := by
  have HR : Hid (rgB v u = (decide (v = 0) || (u && (decide (0 < v) && decide (v < 16))))) := Lib.hid rfl
  generalize rgB v u = q at *
  by_cases h0 : v = 0
  · subst h0
    go_enter Tryz.func21, Tryz.ntmps21
    go_wp2
    go_ret
    exact ⟨congrArg (fun b => Ending.returned (Value.bool b)) (by rw [HR.out]; simp), Below.refl _ _⟩
  have f0 : (v == 0) = false := beq_eq_false_iff_ne.2 h0
  have HR2 : Hid (q = (u && (decide (0 < v) && decide (v < 16)))) := Lib.hid (by rw [HR.out, decide_eq_false h0, Bool.false_or])
  clear HR h0
  cases u
  · go_enter Tryz.func21, Tryz.ntmps21
    go_wp2
    go_ret
    exact ⟨congrArg (fun b => Ending.returned (Value.bool b)) (by rw [HR2.out]; simp), Below.refl _ _⟩
  by_cases h1 : 0 < v
  · have f1 : decide (0 < v) = true := decide_eq_true h1
    go_enter Tryz.func21, Tryz.ntmps21
    go_wp2
    go_ret
    exact ⟨congrArg (fun b => Ending.returned (Value.bool b)) (by rw [HR2.out]; simp [h1]), Below.refl _ _⟩
  · have f1 : decide (0 < v) = false := decide_eq_false h1
    go_enter Tryz.func21, Tryz.ntmps21
    go_wp2
    go_ret
    exact ⟨congrArg (fun b => Ending.returned (Value.bool b)) (by rw [HR2.out, f1]; rfl), Below.refl _ _⟩
theorem use_fmt {k : Nat} (hk : k < 28) : useG k 97 = decide (0 < (fmtN k).2.1) ∧ useG k 98 = decide (1 < (fmtN k).2.1) ∧ useG k 99 = decide (2 < (fmtN k).2.1) ∧ useG k 105 = decide ((fmtN k).2.2 = 1) ∧ useG k 116 = decide ((fmtN k).2.2 = 2) := by
  have : ∀ k : Fin 28, useG k.val 97 = decide (0 < (fmtN k.val).2.1) ∧ useG k.val 98 = decide (1 < (fmtN k.val).2.1) ∧ useG k.val 99 = decide (2 < (fmtN k.val).2.1) ∧ useG k.val 105 = decide ((fmtN k.val).2.2 = 1) ∧ useG k.val 116 = decide ((fmtN k.val).2.2 = 2) := by decide +kernel
  exact this ⟨k, hk⟩
theorem rg_reg (f i : Nat) (v : Int) : rgB v (decide (i < f)) = regB f i v := by
  unfold rgB regB
  rw [Bool.eq_iff_iff]
  simp only [Bool.or_eq_true, Bool.and_eq_true, decide_eq_true_eq]
  omega
/-- A block of the call's own that holds an instruction. -/
def XB (W : World) (N : Nat) (x : GIns) : Prop := W.heap[N]? = some (.cells #[.int .i64 x.op, .int .i64 x.a, .int .i64 x.b, .int .i64 x.c, .int .i32 x.imm] 40 (0, 0))
theorem XB.lt {W : World} {N : Nat} {x : GIns} (h : XB W N x) : N < W.heap.size := by
  rcases Nat.lt_or_ge N W.heap.size with h1 | h1
  · exact h1
  · unfold XB at h; rw [Array.getElem?_eq_none h1] at h; cases h
theorem XB.next {W W' : World} {N : Nat} {x : GIns} (h : XB W N x) (hb : Below W.heap.size W W') : XB W' N x := (hb.block N h.lt).trans h
theorem XB.new (w : World) (x : GIns) : XB (w.alloc (.cells #[.int .i64 x.op, .int .i64 x.a, .int .i64 x.b, .int .i64 x.c, .int .i32 x.imm] 40)) w.heap.size x := heap_alloc_new w _
theorem XB.cells {W : World} {N : Nat} {x : GIns} (h : XB W N x) : W.cell? ⟨N, 0, none⟩ = some (.int .i64 x.op) ∧ W.cell? ⟨N, 1, none⟩ = some (.int .i64 x.a) ∧ W.cell? ⟨N, 2, none⟩ = some (.int .i64 x.b) ∧ W.cell? ⟨N, 3, none⟩ = some (.int .i64 x.c) ∧ W.cell? ⟨N, 4, none⟩ = some (.int .i32 x.imm) := by
  unfold XB at h
  exact ⟨by rw [Lib.cell_of_heap h]; rfl, by rw [Lib.cell_of_heap h]; rfl, by rw [Lib.cell_of_heap h]; rfl, by rw [Lib.cell_of_heap h]; rfl, by rw [Lib.cell_of_heap h]; rfl⟩
end Go.Proofs.YtahhmgoffdggpaaGreatDoor


namespace Go.Proofs.YtahhmgoffdggpaaGreatDoor

open Go.RowKit

set_option maxRecDepth 50000 in
set_option maxHeartbeats 1000000 in
theorem dis_bad (ps : List GIns) (A : Option Addr) (c : Nat) (w : World) (hG : GlobF w) (h : GRow GIns.cells 5 w w.heap.size A ps) (hi : ∀ x ∈ ps, ImmOk x) (hv : valP ps ≠ 0) :
    Calls Tryz.prog 13 #[.slice A ps.length c] w fun e w' => e = .returned (.string ⟨#[]⟩) ∧ Below w.heap.size w w' := by
  have HV := Lib.hid (validate_any ps A c w hG h hi)
  generalize valP ps = ev at *
  have f1 : (ev != 0) = true := by simp [hv]
  clear hG h hi
  go_enter Tryz.func13, Tryz.ntmps13
  go_wp2_with fail
  go_fit HV.out
  rintro e w1 ⟨rfl, hb1⟩
  have HB1 := Lib.hid hb1
  clear hb1
  go_wp2
  go_ret
  exact ⟨rfl, HB1.out⟩
theorem GRow.set1 {w : World} {B g : Nat} {xs : List GIns} (h : GRow GIns.cells 5 w B (some ⟨g, 0, none⟩) xs) {k j0 : Nat} (hk : k < xs.length) (hj0 : j0 < 5) (u : Value) (x : GIns) (hx : x.cells = xs[k].cells.set j0 u) :
    GRow GIns.cells 5 (w.setCell ⟨g, k * 5 + j0, none⟩ u) B (some ⟨g, 0, none⟩) (xs.set k x) := fun hn => by
  rw [List.length_set] at hn
  obtain ⟨b, o, e, hb, hc⟩ := h hn
  cases e
  refine ⟨g, 0, rfl, hb, fun i hi j v hv => ?_⟩
  have hj : j < 5 := by
    rcases Nat.lt_or_ge j 5 with h1 | h1
    · exact h1
    · rw [List.getElem?_eq_none (by rw [GIns.len]; exact h1)] at hv; cases hv
  have hi2 : i < xs.length := by simpa using hi
  rw [Nat.zero_add]
  by_cases hik : i = k
  · subst hik
    rw [List.getElem_set_self, hx] at hv
    by_cases hjj : j = j0
    · subst hjj
      rw [List.getElem?_set_self (by rw [GIns.len]; exact hj)] at hv
      injection hv with hv
      subst hv
      have hold := hc i hi2 j (xs[i].cells[j]'(by rw [GIns.len]; exact hj)) (List.getElem?_eq_getElem _)
      rw [Nat.zero_add] at hold
      exact World.cell?_setCell_same w _ _ hold
    · rw [List.getElem?_set_ne (fun e => hjj e.symm)] at hv
      have hold := hc i hi2 j v hv
      rw [Nat.zero_add] at hold
      rw [World.cell?_setCell_other w _ _ _ (fun e => by have h9 := congrArg Addr.off e; simp only at h9; omega)]
      exact hold
  · rw [List.getElem_set_ne (fun e => hik e.symm)] at hv
    have hold := hc i hi2 j v hv
    rw [Nat.zero_add] at hold
    rw [World.cell?_setCell_other w _ _ _ (fun e => by have h9 := congrArg Addr.off e; simp only at h9; omega)]
    exact hold
theorem valL_set {n : Nat} {c : Int} (hc : c ≠ 0) : ∀ {xs : List GIns} {k : Nat} (x : GIns), (∀ y ∈ xs, chkI y n = 0) → k < xs.length → chkI x n = c → valL n (xs.set k x) = c
  | [], k, _, _, h, _ => absurd h (by simp)
  | y :: r, 0, x, _, _, hx => by
    rw [List.set_cons_zero, valL, hx, if_pos hc]
  | y :: r, k + 1, x, h, hk, hx => by
    rw [List.set_cons_succ, valL, h y (by simp), if_neg (by omega)]
    exact valL_set hc x (fun z hz => h z (by simp [hz])) (by simpa using hk) hx
theorem chk_op {x : GIns} {n : Nat} (h : x.op < 0 ∨ 28 ≤ x.op) : chkI x n = 70 := by unfold chkI; rw [if_pos h]
theorem chk_reg {x : GIns} {n : Nat} (h : ¬ (x.op < 0 ∨ 28 ≤ x.op)) (ha : 16 ≤ x.a) : chkI x n = 70 := by
  unfold chkI chkF
  have hr : ∀ f, regB f 0 x.a = false := fun f => by unfold regB; simp; omega
  rw [if_neg h, if_pos (by rw [hr]; rfl)]
theorem chk_halt {v : Int} {n : Nat} (h : 1 ≤ v) : chkI ⟨0, 0, 0, v, 0⟩ n = 70 := by
  have hr : regB 0 2 v = false := by unfold regB; simp; omega
  show (if (0 : Int) < 0 ∨ 28 ≤ (0 : Int) then (70 : Int) else chkF 0 0 ⟨0, 0, 0, v, 0⟩ n) = 70
  rw [if_neg (by omega)]
  unfold chkF
  rw [if_pos (by rw [hr]; simp)]
theorem chk_jmp {v : Int} {n : Nat} (h : (n : Int) ≤ v) : chkI ⟨18, 0, 0, 0, v⟩ n = 71 := by
  show (if (18 : Int) < 0 ∨ 28 ≤ (18 : Int) then (70 : Int) else chkF 0 2 ⟨18, 0, 0, 0, v⟩ n) = 71
  rw [if_neg (by omega)]
  unfold chkF
  rw [if_neg (show ¬ ((regB 0 0 0 && regB 0 1 0 && regB 0 2 0) = false) by decide), if_neg (by omega), if_pos ⟨rfl, .inr h⟩]
theorem AllOk.zero {n : Nat} {xs : List GIns} (h : AllOk n xs) : ∀ y ∈ xs, chkI y n = 0 := fun y hy => by obtain ⟨k, hk, h2⟩ := h y hy; exact h2.chk hk
theorem valP_set {xs : List GIns} {k : Nat} {x : GIns} {c : Int} (hc : c ≠ 0) (h : AllOk xs.length xs) (h1 : xs.length ≤ 12) (hk : k < xs.length) (hx : chkI x xs.length = c) : valP (xs.set k x) = c := by
  unfold valP
  rw [List.length_set, if_neg (by omega)]
  exact valL_set hc x h.zero hk hx
theorem imm_set {xs : List GIns} {k : Nat} {x : GIns} (h : ∀ y ∈ xs, ImmOk y) (hx : ImmOk x) : ∀ y ∈ xs.set k x, ImmOk y := fun y hy => by
  rcases List.mem_or_eq_of_mem_set hy with h1 | h1
  · exact h y h1
  · subst h1; exact hx
end Go.Proofs.YtahhmgoffdggpaaGreatDoor
