/-
  The contract of awake: it returns true and turns nothing that was there. And how a slice of bytes is made into a string.
  Conditions: none.
  Rows of bytes that a call itself appends to; the contract of spare: it returns a new slice with the bytes of its argument and one spare byte, 99, behind them, and turns nothing that was there.
  Conditions: the argument reads as a list of bytes of at most 2^32 elements.
  The contracts of the fixed-width functions: the program's and the reference's decoders return the same value and error, and leave the world as it was; the appending ones return a new slice with the same bytes and turn nothing that was there.
  Conditions: the argument reads as a list of bytes of at most 2^32 elements.
-/
import Derived.Test.YtahhmgoffdggpaaGreatDoorMb16
import Derived.Test.YtahhmgoffdggpaaGreatDoorMb17
import Derived.Laws.IdiomStrings
import Derived.Lib.SmallJoins
namespace Go.Proofs.YtahhmgoffdggpaaGreatDoor

open Go.RowKit

/-- A string with these bytes. -/
def bs (l : List UInt8) : ByteArray := ⟨l.toArray⟩
theorem Byt.str {w : World} {B n : Nat} {A : Option Addr} {l : List UInt8} (h : Byt w B A n l) (c : Nat) :
    (convert 23 9 (.slice A n c)).run Tryz.prog w = .ok (.string (bs l)) w := by
  by_cases h0 : n = 0
  · subst h0
    obtain rfl : l = [] := List.eq_nil_of_length_eq_zero h.1
    rw [run_convert_bytes_string w _ _ 5 A 0 c Tryz.underlying23 Tryz.underlying5 Tryz.underlying9]
    cases A with
    | none => simp [Conv.bytesToString]; rfl
    | some a =>
      rw [run_bytesToString (P := Tryz.prog) w a 0 c [] (by simpa using run_loadCells_list (P := Tryz.prog) w a [] (by simp))]
      rfl
  · obtain ⟨b, off, rfl, _, hc⟩ := h.at_ (by omega)
    have := run_convert_bytes_back (P := Tryz.prog) w 23 9 5 ⟨b, off, none⟩ c l Tryz.underlying23 Tryz.underlying5 Tryz.underlying9 (fun j hj => by
      have h1 := hc j (by rw [← h.1]; exact hj)
      have e : (⟨b, off, none⟩ : Addr).add j = ⟨b, off + j, none⟩ := by unfold Addr.add; split <;> simp_all
      rw [e, h1]; unfold bt; rw [List.getD_eq_getElem?_getD, List.getElem?_eq_getElem hj]; rfl)
    rw [h.1] at this
    exact this

theorem bs_list (l : List UInt8) : (bs l).toList = l := by rw [ByteArray.toList_eq]; rfl
/-- A new row of bytes, marked or not, reads asx its list. -/
theorem Byt.lit (w : World) (fr : Nat × Nat) (l : List UInt8) (C : Array Value) (n : Nat) (hC : C = (vals l).toArray) (hn : l.length = n) : Byt (w.alloc (.cells C 5 fr)) (w.heap.size + 1) (some ⟨w.heap.size, 0, none⟩) n l := by
  subst hC
  refine ⟨hn, fun _ => ⟨w.heap.size, 0, rfl, by omega, fun j hj => ?_⟩⟩
  rw [World.cell?_alloc_mark, List.getElem?_toArray, Nat.zero_add]
  unfold byV vals bt
  rw [List.getElem?_map, List.getElem?_eq_getElem (by omega), List.getD_eq_getElem?_getD, List.getElem?_eq_getElem (by omega)]; rfl
theorem Byt.litAt (w : World) (fr : Nat × Nat) (l : List UInt8) (C : Array Value) (n g : Nat) (hg : w.heap.size = g) (hC : C = (vals l).toArray) (hn : l.length = n) : Byt (w.alloc (.cells C 5 fr)) (g + 1) (some ⟨g, 0, none⟩) n l := by
  subst hg; exact Byt.lit w fr l C n hC hn
theorem uvar300 : uvar 300 = [172, 2] := by decide
theorem uvar1 : uvar (zz (-1)) = [1] := by decide
theorem crc9 : crcOf [49, 50, 51, 52, 53, 54, 55, 56, 57] = 3421780262 := by decide +kernel
theorem sum8 : sumOf [0, 1, 242, 3, 244, 245, 246, 247] = 8717 := by decide +kernel

end Go.Proofs.YtahhmgoffdggpaaGreatDoor


namespace Go.Proofs.YtahhmgoffdggpaaGreatDoor

open Go.RowKit

/-- v is a slice of the call's own with the bytes l, at the head of a block from base on (or nil). -/
def Own (w : World) (base : Nat) (v : Value) (l : List UInt8) : Prop := w.ownsRow base 5 1 v l.length (vals l)
theorem Own.nil (w : World) (base : Nat) : Own w base (.slice none 0 0) [] := World.ownsRow_nil w base 5 1
theorem Own.form {w : World} {base : Nat} {v : Value} {l : List UInt8} (h : Own w base v l) : ∃ A cap, v = .slice A l.length cap ∧ l.length ≤ cap ∧ cap ≤ maxLen ∧ Byt w w.heap.size A l.length l := by
  rcases h.2 with ⟨hv, h0⟩ | ⟨g, cap, cur, hv, _, hh, hn, hm, hs, ht⟩
  · have h1 : l = [] := List.eq_nil_of_length_eq_zero h0
    subst h1
    exact ⟨none, 0, hv, Nat.le_refl _, Nat.zero_le _, Byt.nil⟩
  · refine ⟨some ⟨g, 0, none⟩, cap, hv, hn, hm, ?_⟩
    have e : cur.toList = vals l ++ cur.toList.drop l.length := by
      have := (List.take_append_drop (l.length * 1) cur.toList).symm
      rw [ht, Nat.mul_one] at this; exact this
    have hr : RowT w g 5 (vals l ++ cur.toList.drop l.length) := by
      unfold RowT; rw [← e]; simpa using hh
    exact hr.byt hr.lt rfl
/-- Where there is an element: the block. -/
theorem Own.some_ {w : World} {base : Nat} {v : Value} {l : List UInt8} (h : Own w base v l) (hl : 0 < l.length) : ∃ g cap, v = .slice (some ⟨g, 0, none⟩) l.length cap ∧ base ≤ g ∧ g < w.heap.size ∧ l.length ≤ cap ∧ cap ≤ maxLen ∧ Byt w (g + 1) (some ⟨g, 0, none⟩) l.length l := by
  rcases h.2 with ⟨hv, h0⟩ | ⟨g, cap, cur, hv, hbg, hh, hn, hm, hs, ht⟩
  · omega
  · have e : cur.toList = vals l ++ cur.toList.drop l.length := by
      have := (List.take_append_drop (l.length * 1) cur.toList).symm
      rw [ht, Nat.mul_one] at this; exact this
    have hr : RowT w g 5 (vals l ++ cur.toList.drop l.length) := by
      unfold RowT; rw [← e]; simpa using hh
    exact ⟨g, cap, hv, hbg, hr.lt, hn, hm, hr.byt (by omega) rfl⟩
theorem Own.alloc {w : World} {base : Nat} {v : Value} {l : List UInt8} (h : Own w base v l) (o : Obj) : Own (w.alloc o) base v l := by
  refine ⟨h.1, ?_⟩
  rcases h.2 with hh | ⟨g, cap, cur, hv, hb, hh, rest⟩
  · exact .inl hh
  · have hlt : g < w.heap.size := by
      rcases Nat.lt_or_ge g w.heap.size with h1 | h1
      · exact h1
      · rw [Array.getElem?_eq_none h1] at hh; cases hh
    exact .inr ⟨g, cap, cur, hv, hb, (Below.heap_alloc w o g hlt).trans hh, rest⟩
theorem Own.below {w w' : World} {base : Nat} {v : Value} {l : List UInt8} (h : Own w base v l) (hb : Below w.heap.size w w') : Own w' base v l := by
  refine ⟨h.1, ?_⟩
  rcases h.2 with hh | ⟨g, cap, cur, hv, hbs, hh, rest⟩
  · exact .inl hh
  · have hlt : g < w.heap.size := by
      rcases Nat.lt_or_ge g w.heap.size with h1 | h1
      · exact h1
      · rw [Array.getElem?_eq_none h1] at hh; cases hh
    exact .inr ⟨g, cap, cur, hv, hbs, (hb.block g hlt).trans hh, rest⟩
/-- The builtin append onto such a slice. -/
theorem Own.app {W w0 : World} {base : Nat} {v : Value} {l : List UInt8} (h : Own W base v l) {B : Nat} {A : Option Addr} {m : Nat} (c : Nat) {l2 : List UInt8} (hs : Byt W B A m l2) (hb : Below base w0 W) (hbase : base ≤ W.heap.size) (hl : l.length + m ≤ 1099511627776) :
    ∃ v' w', (Builtin.append_ #[23, 23] 23 #[v, .slice A m c]).run Tryz.prog W = .ok v' w' ∧ Own w' base v' (l ++ l2) ∧ Below base w0 w' ∧ W.heap.size ≤ w'.heap.size := by
  obtain ⟨i0, hi0, hz0, hz1, hz2⟩ := info_parts byte_info
  rcases A with _ | ad
  · have hm : m = 0 := by
      rcases Nat.eq_zero_or_pos m with h0 | h0
      · exact h0
      · obtain ⟨b, off, hA, _⟩ := hs.2 h0
        cases hA
    subst hm
    have hl2 : l2 = [] := List.eq_nil_of_length_eq_zero hs.1
    subst hl2
    refine ⟨v, W, ?_, by rw [List.append_nil]; exact h, hb, Nat.le_refl _⟩
    rcases h.2 with ⟨rfl, _⟩ | ⟨g, cap, cur, rfl, _, _, hnc, _⟩
    · simp [Builtin.append_, run_underlying Tryz.underlying23, sizeOf, typeInfo, hi0, Builtin.lenOf, Builtin.firstCells]
    · simp [Builtin.append_, run_underlying Tryz.underlying23, sizeOf, typeInfo, hi0, Builtin.lenOf, Builtin.firstCells, hnc, storeCells]
  · obtain ⟨v', w', hrun, hown, hg, _, _⟩ := run_append_own_at (P := Tryz.prog) W base 23 23 5 i0 _ 1 1 Tryz.underlying23 hi0 hz0 hz1 hz2 rfl (by omega) v l.length (vals l) h ad m c (vals l2)
      (by rw [length_vals, hs.1, Nat.mul_one])
      (fun j u hu => by
        obtain ⟨hj, rfl⟩ := vals_get l2 j u hu
        rw [hs.1] at hj
        obtain ⟨b, off, hA, _, hc⟩ := hs.2 (by omega)
        obtain rfl := Option.some.inj hA
        have e : (⟨b, off, none⟩ : Addr).add j = ⟨b, off + j, none⟩ := by unfold Addr.add; split <;> simp_all
        rw [e, hc j hj]; rfl)
      (vals_one l2) (by unfold maxLen; omega) (by omega) hbase
    refine ⟨v', w', hrun, ?_, hb.grown hg hbase (fun k hk => (h.lt k hk).1), hg.size⟩
    unfold Own
    rw [List.length_append, hs.1, vals_append]; exact hown

/-- An append whose run is known, asx a step of the walk. -/
theorem wpList_app_run {ops : Array Oper} {rest : List Oper} {o : Oper} {a : Act} {Q : Exit → Act → World → Prop} {v y v' : Value} {W w' : World}
    (hrun : (Builtin.append_ #[23, 23] 23 #[v, y]).run Tryz.prog W = .ok v' w') (hgd : o.guard = none) {s x : Operand}
    (ho : o.op = .call { callee := .builtin .append, args := #[s, x], argTypes := #[23, 23] }) (hty : o.type = 23) (hs : a.eval s = v) (hx : a.eval x = y)
    (h : wpList Tryz.prog ops Q rest (a.put o.dst v') w') : wpList Tryz.prog ops Q (o :: rest) a W := by
  refine wpList_plain hgd fun K hK => ?_
  unfold Oper.wp execOp
  simp only [ho, hty, resolve, invoke, builtin, Sem.run_bind, Sem.run_pure, Result.andThen_ok, List.map_toArray, List.map_cons, List.map_nil, hs, hx, hrun]
  exact hK _ _ h

end Go.Proofs.YtahhmgoffdggpaaGreatDoor


namespace Go.Proofs.YtahhmgoffdggpaaGreatDoor

open Go.RowKit

/-- The integer in k bytes from off on, the least significant byte first. -/
def leUp (l : List UInt8) (off : Nat) : Nat → Nat
  | 0 => 0
  | k + 1 => leUp l off k + bt l (off + k) * 256 ^ k
def uintV (l : List UInt8) (off : Int) (k : Nat) : Nat := if off < 0 ∨ (l.length : Int) < off ∨ (l.length : Int) - off < k then 0 else leUp l off.toNat k
def uintE (l : List UInt8) (off : Int) (k : Nat) : Int := if off < 0 ∨ (l.length : Int) < off then 6 else if (l.length : Int) - off < k then 52 else 0

theorem leUp_lt (l : List UInt8) (o j : Nat) : leUp l o j < 256 ^ j := by
  induction j with
  | zero => exact Nat.one_pos
  | succ j ih =>
    have h1 := bt_lt l (o + j)
    have h2 : bt l (o + j) * 256 ^ j ≤ 255 * 256 ^ j := Nat.mul_le_mul_right _ (by omega)
    show leUp l o j + bt l (o + j) * 256 ^ j < 256 ^ (j + 1)
    rw [Nat.pow_succ]; omega
theorem pow_le_56 {j : Nat} (h : j < 8) : 256 ^ j ≤ 72057594037927936 :=
  Nat.le_trans (Nat.pow_le_pow_right (by omega) (show j ≤ 7 by omega)) (by decide)
/-- A byte put on top of j bytes. -/
theorem or_shift (x y j : Nat) (hx : x < 256 ^ j) (hy : y < 256) (hj : j < 8) : bits .or .u64 (x : Int) (IntKind.u64.wrap ((y : Int) * 2 ^ (8 * j))) = ((x + y * 256 ^ j : Nat) : Int) := by
  have hp := pow_le_56 hj
  have e0 : (2 : Nat) ^ (8 * j) = 256 ^ j := by rw [Nat.pow_mul]
  have hm : y * 256 ^ j ≤ 255 * 256 ^ j := Nat.mul_le_mul_right _ (by omega)
  have e1 : (y : Int) * 2 ^ (8 * j) = ((y * 256 ^ j : Nat) : Int) := by rw [← e0]; push_cast; rfl
  rw [e1, IntKind.wrap_u64]
  have e2 : ((y * 256 ^ j : Nat) : Int) % 18446744073709551616 = ((y * 256 ^ j : Nat) : Int) := by omega
  rw [e2, u64_or_nat _ _ (by omega) (by omega), Nat.or_comm, nat_join (8 * j) (y * 256 ^ j) x (by rw [e0]; exact Nat.mul_mod_left _ _) (by rw [e0]; exact hx), Nat.add_comm]

set_option maxRecDepth 20000 in
set_option maxHeartbeats 800000 in
theorem fixed_any (A : Option Addr) (n c B k : Nat) (off : Int) (l : List UInt8) (w : World) (h : Byt w B A n l) (hn : n ≤ 4294967296) (hk : k ≤ 8) :
    Calls Tryz.prog 44 #[.slice A n c, .int .i64 off, .int .i64 (k : Int)] w fun e w' => e = .returned (.tuple #[.int .u64 (uintV l off k : Nat), .int .i64 (uintE l off k)]) ∧ w = w' := by
  have HL := Lib.hid h.1
  by_cases hr : off < 0 ∨ (n : Int) < off
  · have e1 : uintV l off k = 0 := by unfold uintV; rw [if_pos (by rw [h.1]; omega)]
    have e2 : uintE l off k = 6 := by unfold uintE; rw [if_pos (by rw [h.1]; omega)]
    rw [e1, e2]
    clear e1 e2 h
    rcases hr with hr | hr
    · go_enter Tryz.func44, Tryz.ntmps44
      go_wp2
      go_ret2
      exact ⟨rfl, rfl⟩
    · have hr' : 0 ≤ off := by omega
      have hd : decide (off ≤ (n : Int)) = false := by simp; omega
      go_enter Tryz.func44, Tryz.ntmps44
      go_wp2
      go_ret2
      exact ⟨rfl, rfl⟩
  · obtain ⟨o, rfl⟩ : ∃ o : Nat, off = (o : Int) := ⟨off.toNat, by omega⟩
    have ho : o ≤ n := by omega
    have hd : decide (o ≤ n) = true := by simpa using ho
    clear hr
    by_cases ht : n - o < k
    · have e1 : uintV l (o : Int) k = 0 := by unfold uintV; rw [if_pos (by rw [h.1]; omega)]
      have e2 : uintE l (o : Int) k = 52 := by unfold uintE; rw [if_neg (by rw [h.1]; omega), if_pos (by rw [h.1]; omega)]
      rw [e1, e2]
      clear e1 e2 h
      have ht' : (n : Int) - (o : Int) < (k : Int) := by omega
      go_enter Tryz.func44, Tryz.ntmps44
      go_wp2
      go_ret2
      exact ⟨rfl, rfl⟩
    · have e1 : uintV l (o : Int) k = leUp l o k := by unfold uintV; rw [if_neg (by rw [h.1]; omega)]; rfl
      have e2 : uintE l (o : Int) k = 0 := by unfold uintE; rw [if_neg (by rw [h.1]; omega), if_neg (by rw [h.1]; omega)]
      rw [e1, e2]
      clear e1 e2
      have ht' : ¬ (n : Int) - (o : Int) < (k : Int) := by omega
      have HH := Lib.hid h
      clear h
      go_enter Tryz.func44, Tryz.ntmps44
      go_wp2
      go_loop [8, 21] (fun t i => ∃ j : Nat, j ≤ k ∧ i = .int .i64 j ∧ t = .int .u64 (leUp l o j : Nat)) (fun _ i => k - (intOf i).toNat)
      case atStart => exact ⟨0, Nat.zero_le _, rfl, rfl⟩
      case round =>
        obtain ⟨j, hj, rfl, rfl⟩ := hrel
        by_cases hlt : j < k
        · obtain ⟨b, off, rfl, hb, hc⟩ := HH.out.at_ (by omega)
          have hcj := hc (o + j) (by omega)
          have hbt := bt_lt l (o + j)
          clear hc
          obtain ⟨x, hx⟩ : ∃ x, x = leUp l o j := ⟨_, rfl⟩
          have HO := Lib.hid (or_shift (leUp l o j) (bt l (o + j)) j (leUp_lt l o j) hbt (by omega))
          rw [← hx] at HO ⊢
          have HX := Lib.hid hx
          clear hx
          go_wp2
          go_round
          case rel => exact ⟨j + 1, by omega, by go_num, by rw [leUp, ← HX.out]; exact int_k HO.out⟩
          case measure => simp [intOf]; omega
        · go_wp2
          go_ret2
          rw [show j = k by omega]
          exact ⟨rfl, rfl⟩

/-- What the reference has gathered when it comes down to byte j. -/
def leDown (l : List UInt8) (o k : Nat) (j : Nat) : Nat := leUp l (o + j) (k - j)
theorem leUp_front (l : List UInt8) (o k : Nat) : leUp l o (k + 1) = leUp l (o + 1) k * 256 + bt l o := by
  induction k with
  | zero => simp [leUp]
  | succ k ih =>
    show leUp l o (k + 1) + bt l (o + (k + 1)) * 256 ^ (k + 1) = (leUp l (o + 1) k + bt l (o + 1 + k) * 256 ^ k) * 256 + bt l o
    rw [ih, Nat.pow_succ, Nat.add_mul, show o + (k + 1) = o + 1 + k by omega, Nat.mul_assoc]
    omega
theorem or_low (x y : Nat) (hx : x < 72057594037927936) (hy : y < 256) : bits .or .u64 (IntKind.u64.wrap ((x : Int) * 256)) (y : Int) = ((x * 256 + y : Nat) : Int) := by
  have e1 : IntKind.u64.wrap ((x : Int) * 256) = ((x * 256 : Nat) : Int) := by rw [IntKind.wrap_u64]; omega
  rw [e1, u64_or_nat _ _ (by omega) (by omega), nat_join 8 (x * 256) y (by omega) (by omega)]

set_option maxRecDepth 20000 in
set_option maxHeartbeats 800000 in
theorem uintRef_any (A : Option Addr) (n c B k : Nat) (off : Int) (l : List UInt8) (w : World) (h : Byt w B A n l) (hn : n ≤ 4294967296) (hk : k ≤ 8) :
    Calls Tryz.prog 19 #[.slice A n c, .int .i64 off, .int .i64 (k : Int)] w fun e w' => e = .returned (.tuple #[.int .u64 (uintV l off k : Nat), .int .i64 (uintE l off k)]) ∧ w = w' := by
  have HL := Lib.hid h.1
  by_cases hr : off < 0 ∨ (n : Int) < off
  · have e1 : uintV l off k = 0 := by unfold uintV; rw [if_pos (by rw [h.1]; omega)]
    have e2 : uintE l off k = 6 := by unfold uintE; rw [if_pos (by rw [h.1]; omega)]
    rw [e1, e2]
    clear e1 e2 h
    rcases hr with hr | hr
    · have hd : decide (off < 0) = true := by simpa using hr
      go_enter Tryz.func19, Tryz.ntmps19
      go_wp2
      go_ret2
      exact ⟨rfl, rfl⟩
    · have hr' : decide (off < 0) = false := by simp; omega
      have hd : decide ((n : Int) < off) = true := by simpa using hr
      go_enter Tryz.func19, Tryz.ntmps19
      go_wp2
      go_ret2
      exact ⟨rfl, rfl⟩
  · obtain ⟨o, rfl⟩ : ∃ o : Nat, off = (o : Int) := ⟨off.toNat, by omega⟩
    have ho : o ≤ n := by omega
    have hr' : decide ((o : Int) < 0) = false := by simp
    have hd : decide (n < o) = false := by simpa using ho
    clear hr
    by_cases ht : n - o < k
    · have e1 : uintV l (o : Int) k = 0 := by unfold uintV; rw [if_pos (by rw [h.1]; omega)]
      have e2 : uintE l (o : Int) k = 52 := by unfold uintE; rw [if_neg (by rw [h.1]; omega), if_pos (by rw [h.1]; omega)]
      rw [e1, e2]
      clear e1 e2 h
      have ht' : (n : Int) - (o : Int) < (k : Int) := by omega
      go_enter Tryz.func19, Tryz.ntmps19
      go_wp2
      go_ret2
      exact ⟨rfl, rfl⟩
    · have e1 : uintV l (o : Int) k = leUp l o k := by unfold uintV; rw [if_neg (by rw [h.1]; omega)]; rfl
      have e2 : uintE l (o : Int) k = 0 := by unfold uintE; rw [if_neg (by rw [h.1]; omega), if_neg (by rw [h.1]; omega)]
      rw [e1, e2]
      clear e1 e2
      have ht' : ¬ (n : Int) - (o : Int) < (k : Int) := by omega
      have HH := Lib.hid h
      clear h
      go_enter Tryz.func19, Tryz.ntmps19
      go_wp2
      go_loop [8, 9] (fun t i => ∃ j : Nat, j ≤ k ∧ i = .int .i64 ((j : Int) - 1) ∧ t = .int .u64 (leDown l o k j : Nat)) (fun _ i => (intOf i + 1).toNat)
      case atStart => exact ⟨k, Nat.le_refl _, rfl, by unfold leDown; rw [Nat.sub_self]; rfl⟩
      case round =>
        obtain ⟨j, hj, rfl, rfl⟩ := hrel
        by_cases hlt : 0 < j
        · obtain ⟨b, off, rfl, hb, hc⟩ := HH.out.at_ (by omega)
          obtain ⟨i, rfl⟩ : ∃ i, j = i + 1 := ⟨j - 1, by omega⟩
          have hcj := hc (o + i) (by omega)
          have hbt := bt_lt l (o + i)
          clear hc
          have hD : leDown l o k i = leDown l o k (i + 1) * 256 + bt l (o + i) := by
            unfold leDown; rw [show k - i = (k - (i + 1)) + 1 by omega, leUp_front]; rfl
          have hxl : leDown l o k (i + 1) < 72057594037927936 := Nat.lt_of_lt_of_le (leUp_lt _ _ _) (pow_le_56 (by omega))
          obtain ⟨x, hx⟩ : ∃ x, x = leDown l o k (i + 1) := ⟨_, rfl⟩
          rw [← hx] at hD hxl ⊢
          have HO := Lib.hid (or_low x (bt l (o + i)) hxl hbt)
          have HD := Lib.hid hD
          have hi : ((i + 1 : Nat) : Int) - 1 = (i : Int) := by omega
          rw [hi]
          clear hx hD hxl hi
          go_wp2
          go_round
          case rel => exact ⟨i, by omega, rfl, by rw [HD.out]; exact int_k HO.out⟩
          case measure => simp [intOf]
        · obtain rfl : j = 0 := by omega
          go_wp2
          go_ret2
          exact ⟨rfl, rfl⟩

end Go.Proofs.YtahhmgoffdggpaaGreatDoor
