/-
  Facts as plain data, and their order: a total order of values and of facts.
  Conditions: none.
  Contracts of Go's library, as the kit's shelf has them, laid at this program: each is the library's own theorem at this program's numbers.
  Conditions: as each says.
  Positions ascend; worlds that follow one another.
  Conditions: none beyond what each theorem says.
-/
import Derived.Lib.Bytealg
import Derived.Lib.Small
import Derived.Lib.Hide
import Derived.Shelf.Strings.Builder1
import Derived.Shelf.Small.Bits
import Derived.Shelf.Small.Strs
import Derived.Shelf.Small.Wraps
import Derived.Shelf.Strconv.Itoa0
import Derived.Shelf.Strconv.Itoa1
import Derived.Shelf.LaysM
import Derived.Shelf.Strconv.Itoa2
import Derived.Shelf.Strconv.Itoa3
import Derived.Shelf.Strconv.Itoa4
import Derived.Shelf.Strconv.Clone
import Derived.Shelf.Strconv.Lower
import Derived.Shelf.Strconv.RangeError
import Derived.Shelf.LaysC
import Derived.Shelf.Strconv.ToErrorRange
import Derived.Shelf.Strconv.ParseUint10b64
import Derived.Ground.MpProg
import Derived.Shelf.Pu.ParseUintPublic10
import Derived.Shelf.Pu.ErrVarParseUint
import Derived.Shelf.Strings.Search1
import Derived.Shelf.Strings.Search2
import Derived.Shelf.Strings.Search3
import Derived.Shelf.Strings.Count
import Derived.Shelf.Strings.Shaped
import Derived.Shelf.Strings.LastIndex
import Derived.Shelf.Strings.Prefix
import Derived.Test.YtmodjokoggmnaaaGreatDoorProg
import Derived.Test.YtmodjokoggmnaaaGreatDoorMa5
import Derived.Test.YtmodjokoggmnaaaGreatDoorMa6
namespace Go.Proofs.YtmodjokoggmnaaaGreatDoor

/-- c is the three-way comparison of a total order. -/
structure Ord3 {α : Type} (c : α → α → Int) : Prop where
  r : ∀ a b, -1 ≤ c a b ∧ c a b ≤ 1
  z : ∀ a b, c a b = 0 ↔ a = b
  n : ∀ a b, c b a = - c a b
  t : ∀ a b d, c a b < 0 → c b d < 0 → c a d < 0
theorem Ord3.of {α β : Type} {c : α → α → Int} (h : Ord3 c) (f : β → α) (hf : ∀ x y, f x = f y → x = y) : Ord3 (fun x y => c (f x) (f y)) :=
  ⟨fun _ _ => h.r _ _, fun a b => ⟨fun e => hf _ _ ((h.z _ _).1 e), fun e => by rw [e]; exact (h.z _ _).2 rfl⟩, fun _ _ => h.n _ _, fun _ _ _ => h.t _ _ _⟩
def then3 (x y : Int) : Int := if x ≠ 0 then x else y
def lex3 {α β : Type} (c : α → α → Int) (d : β → β → Int) (x y : α × β) : Int := then3 (c x.1 y.1) (d x.2 y.2)
theorem Ord3.self {α : Type} {c : α → α → Int} (h : Ord3 c) (a : α) : c a a = 0 := (h.z a a).2 rfl
theorem Ord3.lex {α β : Type} {c : α → α → Int} {d : β → β → Int} (hc : Ord3 c) (hd : Ord3 d) : Ord3 (lex3 c d) := by
  refine ⟨fun a b => ?_, fun a b => ?_, fun a b => ?_, fun a b e h1 h2 => ?_⟩
  · have h1 := hc.r a.1 b.1
    have h2 := hd.r a.2 b.2
    unfold lex3 then3; split <;> omega
  · unfold lex3 then3
    split
    · rename_i h
      exact ⟨fun e => absurd e h, fun e => absurd (by rw [e]; exact hc.self _) h⟩
    · rename_i h
      have h1 : a.1 = b.1 := (hc.z _ _).1 (by omega)
      rw [hd.z]
      exact ⟨fun e => Prod.ext h1 e, fun e => by rw [e]⟩
  · have h1 := hc.n a.1 b.1
    have h2 := hd.n a.2 b.2
    unfold lex3 then3; split <;> split <;> omega
  · unfold lex3 then3 at h1 h2 ⊢
    by_cases x : c a.1 b.1 = 0
    · have e1 : a.1 = b.1 := (hc.z _ _).1 x
      by_cases y : c b.1 e.1 = 0
      · have e2 : b.1 = e.1 := (hc.z _ _).1 y
        have z : c a.1 e.1 = 0 := by rw [e1]; exact y
        rw [if_neg (by omega)] at h1 h2 ⊢
        exact hd.t _ _ _ h1 h2
      · rw [if_pos y] at h2
        rw [e1, if_pos y]; exact h2
    · rw [if_pos x] at h1
      by_cases y : c b.1 e.1 = 0
      · have e2 : b.1 = e.1 := (hc.z _ _).1 y
        rw [← e2, if_pos x]; exact h1
      · rw [if_pos y] at h2
        have := hc.t _ _ _ h1 h2
        rw [if_pos (by omega)]; exact this
def list3 {α : Type} (c : α → α → Int) : List α → List α → Int
  | [], [] => 0
  | [], _ :: _ => -1
  | _ :: _, [] => 1
  | a :: asx, b :: bs => then3 (c a b) (list3 c asx bs)
theorem Ord3.list {α : Type} {c : α → α → Int} (hc : Ord3 c) : Ord3 (list3 c) := by
  refine ⟨fun a => ?_, fun a => ?_, fun a => ?_, fun a => ?_⟩
  · induction a with
    | nil => intro b; cases b <;> simp [list3]
    | cons x xs ih =>
      intro b
      cases b with
      | nil => simp [list3]
      | cons y ys => have h1 := hc.r x y; have h2 := ih ys; unfold list3 then3; split <;> omega
  · induction a with
    | nil => intro b; cases b <;> simp [list3]
    | cons x xs ih =>
      intro b
      cases b with
      | nil => simp [list3]
      | cons y ys =>
        unfold list3 then3
        split
        · rename_i h
          exact ⟨fun e => absurd e h, fun e => absurd (by injection e with e1 _; rw [e1]; exact hc.self _) h⟩
        · rename_i h
          have h1 : x = y := (hc.z _ _).1 (by omega)
          rw [ih, h1]
          exact ⟨fun e => by rw [e], fun e => by injection e⟩
  · induction a with
    | nil => intro b; cases b <;> simp [list3]
    | cons x xs ih =>
      intro b
      cases b with
      | nil => simp [list3]
      | cons y ys => have h1 := hc.n x y; have h2 := ih ys; unfold list3 then3; split <;> split <;> omega
  · induction a with
    | nil =>
      intro b e h1 h2
      cases b with
      | nil => exact h2
      | cons y ys => cases e with
        | nil => simp [list3] at h2
        | cons v vs => simp [list3]
    | cons x xs ih =>
      intro b e h1 h2
      cases b with
      | nil => simp [list3] at h1
      | cons y ys => cases e with
        | nil => simp [list3] at h2
        | cons v vs =>
          unfold list3 then3 at h1 h2 ⊢
          by_cases p : c x y = 0
          · have e1 : x = y := (hc.z _ _).1 p
            rw [if_neg (by omega)] at h1
            by_cases q : c y v = 0
            · rw [if_neg (by omega)] at h2
              rw [e1, if_neg (by omega)]
              exact ih _ _ h1 h2
            · rw [if_pos q] at h2
              rw [e1, if_pos q]; exact h2
          · rw [if_pos p] at h1
            by_cases q : c y v = 0
            · rw [← (hc.z _ _).1 q, if_pos p]; exact h1
            · rw [if_pos q] at h2
              have := hc.t _ _ _ h1 h2
              rw [if_pos (by omega)]; exact this

theorem ord_int : Ord3 Lib.compareInt := by
  refine ⟨fun a b => ?_, fun a b => ?_, fun a b => ?_, fun a b d h1 h2 => ?_⟩
  · unfold Lib.compareInt; split
    · omega
    · split <;> omega
  · unfold Lib.compareInt; split
    · omega
    · split <;> omega
  · unfold Lib.compareInt; split <;> split <;> (try split) <;> (try split) <;> omega
  · unfold Lib.compareInt at *
    split at h1
    · split at h2
      · rw [if_pos (by omega)]; omega
      · split at h2 <;> omega
    · split at h1 <;> omega
def byte3 (a b : UInt8) : Int := Lib.compareInt a.toNat b.toNat
theorem ord_byte : Ord3 byte3 := ord_int.of (fun a : UInt8 => (a.toNat : Int)) (fun x y h => UInt8.toNat_inj.1 (by omega))
theorem bytes_list3 : ∀ a b : List UInt8, Lib.compareBytes a b = list3 byte3 a b
  | [], [] => rfl
  | [], _ :: _ => rfl
  | _ :: _, [] => rfl
  | a :: asx, b :: bs => by
    unfold Lib.compareBytes list3
    rw [bytes_list3 asx bs]
    have h1 : a < b ↔ a.toNat < b.toNat := UInt8.lt_iff_toNat_lt
    have h2 : b < a ↔ b.toNat < a.toNat := UInt8.lt_iff_toNat_lt
    unfold then3 byte3 Lib.compareInt
    by_cases x : a.toNat < b.toNat
    · rw [if_pos (h1.2 x), if_pos (show (a.toNat : Int) < b.toNat by omega)]; simp
    · rw [if_neg (fun h => x (h1.1 h)), if_neg (show ¬ (a.toNat : Int) < b.toNat by omega)]
      by_cases y : b.toNat < a.toNat
      · rw [if_pos (h2.2 y), if_pos (show (a.toNat : Int) > b.toNat by omega)]; simp
      · rw [if_neg (fun h => y (h2.1 h)), if_neg (show ¬ (a.toNat : Int) > b.toNat by omega)]; simp
theorem ord_bytes : Ord3 Lib.compareBytes := by
  have h : Lib.compareBytes = list3 byte3 := funext fun a => funext fun b => bytes_list3 a b
  rw [h]; exact ord_byte.list

structure GVal where
  kind : Int
  int : Int
  word : List UInt8
def GVal.t (v : GVal) : Int × (Int × List UInt8) := (v.kind, (v.int, v.word))
theorem GVal.t_inj (x y : GVal) (h : x.t = y.t) : x = y := by
  obtain ⟨a, b, c⟩ := x
  obtain ⟨a', b', c'⟩ := y
  simp [GVal.t] at h
  obtain ⟨rfl, rfl, rfl⟩ := h; rfl
def cmpV (a b : GVal) : Int := lex3 Lib.compareInt (lex3 Lib.compareInt Lib.compareBytes) a.t b.t
theorem ord_val : Ord3 cmpV := (ord_int.lex (ord_int.lex ord_bytes)).of GVal.t GVal.t_inj
theorem cmpV_eq (a b : GVal) : cmpV a b = then3 (Lib.compareInt a.kind b.kind) (then3 (Lib.compareInt a.int b.int) (Lib.compareBytes a.word b.word)) := rfl

structure GFact where
  rel : List UInt8
  args : List GVal
def GFact.t (f : GFact) : List UInt8 × (Int × List GVal) := (f.rel, ((f.args.length : Int), f.args))
theorem GFact.t_inj (x y : GFact) (h : x.t = y.t) : x = y := by
  obtain ⟨a, b⟩ := x
  obtain ⟨a', b'⟩ := y
  simp [GFact.t] at h
  obtain ⟨rfl, _, rfl⟩ := h; rfl
def cmpF (a b : GFact) : Int := lex3 Lib.compareBytes (lex3 Lib.compareInt (list3 cmpV)) a.t b.t
theorem ord_fact : Ord3 cmpF := (ord_bytes.lex (ord_int.lex ord_val.list)).of GFact.t GFact.t_inj
theorem cmpF_eq (a b : GFact) : cmpF a b = then3 (Lib.compareBytes a.rel b.rel) (then3 (Lib.compareInt a.args.length b.args.length) (list3 cmpV a.args b.args)) := rfl

/-- The laws that FactOrder asks. -/
theorem Ord3.laws {α : Type} {c : α → α → Int} (h : Ord3 c) (a b d : α) : (c a b ≤ 0 → c b d ≤ 0 → c a d ≤ 0) ∧ (0 ≤ c a b → 0 ≤ c b d → 0 ≤ c a d) ∧ (c a b = 0 → c b d = 0 → c a d = 0) := by
  have le : ∀ a b d, c a b ≤ 0 → c b d ≤ 0 → c a d ≤ 0 := fun a b d h1 h2 => by
    by_cases x : c a b = 0
    · rw [(h.z _ _).1 x]; exact h2
    · by_cases y : c b d = 0
      · rw [← (h.z _ _).1 y]; exact h1
      · have := h.t a b d (by omega) (by omega); omega
  refine ⟨le a b d, fun h1 h2 => ?_, fun h1 h2 => ?_⟩
  · have e1 := h.n a b
    have e2 := h.n b d
    have e3 := h.n a d
    have := le d b a (by omega) (by omega)
    omega
  · rw [(h.z _ _).1 h1]; exact h2
/-- The first k elements agree: what the comparison of two lists goes by from there. -/
theorem list3_at {α : Type} {c : α → α → Int} (h0 : ∀ a, c a a = 0) : ∀ (k : Nat) (xs ys : List α), xs.take k = ys.take k → k ≤ xs.length → k ≤ ys.length → list3 c xs ys = list3 c (xs.drop k) (ys.drop k)
  | 0, xs, ys, _, _, _ => by simp
  | k + 1, [], ys, _, h1, _ => by simp at h1
  | k + 1, _ :: _, [], _, _, h2 => by simp at h2
  | k + 1, x :: xs, y :: ys, h, h1, h2 => by
    simp at h h1 h2
    obtain ⟨rfl, h⟩ := h
    show then3 (c x x) _ = _
    rw [h0]
    show list3 c xs ys = _
    rw [list3_at h0 k xs ys h h1 h2]; simp
end Go.Proofs.YtmodjokoggmnaaaGreatDoor


namespace Go.Proofs
open Go.Shelf
def Tryz.lays125_ren : Go.Shelf.Ren := ⟨fun | 125 => 143 | 128 => 166 | 129 => 114 | n => n, fun | 46 => 140 | 3 => 3 | 51 => 156 | 53 => 50 | 4 => 4 | 5 => 5 | 9 => 9 | n => n, fun | n => n⟩
theorem Tryz.lays125 : Go.Proofs.Lays.n125 Tryz.prog Tryz.lays125_ren := {
  mixed := by kernel_rfl
  f125 := Tryz.func143.trans (congrArg some (by kernel_rfl))
  f128 := Tryz.func166.trans (congrArg some (by kernel_rfl))
  f129 := Tryz.func114.trans (congrArg some (by kernel_rfl))
  t3 := Tryz.underlying3
  a3 := Tryz.isAgg3
  z3 := Tryz.sizeOf3
  v3 := Tryz.zeroValue3
  t4 := Tryz.underlying4
  a4 := Tryz.isAgg4
  z4 := Tryz.sizeOf4
  v4 := Tryz.zeroValue4
  t5 := Tryz.underlying5
  a5 := Tryz.isAgg5
  z5 := Tryz.sizeOf5
  v5 := Tryz.zeroValue5
  t9 := Tryz.underlying9
  a9 := Tryz.isAgg9
  z9 := Tryz.sizeOf9
  v9 := Tryz.zeroValue9
  t46 := Tryz.underlying140
  a46 := Tryz.isAgg140
  z46 := Tryz.sizeOf140
  v46 := Tryz.zeroValue140
  t51 := Tryz.underlying156
  a51 := Tryz.isAgg156
  z51 := Tryz.sizeOf156
  v51 := Tryz.zeroValue156
  t53 := Tryz.underlying50
  a53 := Tryz.isAgg50
  z53 := Tryz.sizeOf50
  v53 := Tryz.zeroValue50 }
theorem Tryz.bits_Len (x : Int) (w : World) (h0 : 0 ≤ x) (h1 : x ≤ 18446744073709551615) :
    Calls Tryz.prog 143 #[.int .u64 x] w fun e w' => e = .returned (.int .i64 (Lib.bitLen x.toNat)) ∧ w' = w := Any.bits_Len Tryz.lays125 x w h0 h1
def Tryz.lays106_ren : Go.Shelf.Ren := ⟨fun | 106 => 42 | 213 => 73 | 265 => 107 | n => n, fun | 9 => 9 | 3 => 3 | n => n, fun | n => n⟩
theorem Tryz.lays106 : Go.Proofs.Lays.n106 Tryz.prog Tryz.lays106_ren := {
  mixed := by kernel_rfl
  f106 := Tryz.func42.trans (congrArg some (by kernel_rfl))
  f213 := Tryz.func73.trans (congrArg some (by kernel_rfl))
  f265 := Tryz.func107.trans (congrArg some (by kernel_rfl))
  t3 := Tryz.underlying3
  a3 := Tryz.isAgg3
  z3 := Tryz.sizeOf3
  v3 := Tryz.zeroValue3
  t9 := Tryz.underlying9
  a9 := Tryz.isAgg9
  z9 := Tryz.sizeOf9
  v9 := Tryz.zeroValue9 }
open Go.RowKit in
theorem Tryz.strings_Compare (a b : ByteArray) (w : World) :
    Calls Tryz.prog 42 #[.string a, .string b] w fun e w' => e = .returned (.int .i64 (Lib.compareBytes a.data.toList b.data.toList)) ∧ w' = w := Any.strings_Compare Tryz.lays106 a b w
def Tryz.lays122_ren : Go.Shelf.Ren := ⟨fun | 122 => 43 | 215 => 74 | n => n, fun | 3 => 3 | 4 => 4 | n => n, fun | n => n⟩
theorem Tryz.lays122 : Go.Proofs.Lays.n122 Tryz.prog Tryz.lays122_ren := {
  mixed := by kernel_rfl
  f122 := Tryz.func43.trans (congrArg some (by kernel_rfl))
  f215 := Tryz.func74.trans (congrArg some (by kernel_rfl))
  t3 := Tryz.underlying3
  a3 := Tryz.isAgg3
  z3 := Tryz.sizeOf3
  v3 := Tryz.zeroValue3
  t4 := Tryz.underlying4
  a4 := Tryz.isAgg4
  z4 := Tryz.sizeOf4
  v4 := Tryz.zeroValue4 }
open Go.RowKit in
theorem Tryz.cmp_Compare_int (x y : Int) (w : World) :
    Calls Tryz.prog 43 #[.int .i64 x, .int .i64 y] w fun e w' => e = .returned (.int .i64 (Lib.compareInt x y)) ∧ w' = w := Any.cmp_Compare_int Tryz.lays122 x y w
def Tryz.lays138_ren : Go.Shelf.Ren := ⟨fun | 138 => 50 | 195 => 85 | 218 => 86 | 143 => 87 | 219 => 116 | 217 => 109 | 225 => 139 | 224 => 140 | 267 => 141 | 266 => 134 | 314 => 157 | n => n, fun | 9 => 9 | 3 => 3 | 4 => 4 | 5 => 5 | 0 => 0 | 46 => 140 | 146 => 164 | 51 => 156 | n => n, fun | 1 => 0 | n => n⟩
theorem Tryz.lays138 : Go.Proofs.Lays.n138 Tryz.prog Tryz.lays138_ren := {
  mixed := by kernel_rfl
  f138 := Tryz.func50.trans (congrArg some (by kernel_rfl))
  f143 := Tryz.func87.trans (congrArg some (by kernel_rfl))
  f195 := Tryz.func85.trans (congrArg some (by kernel_rfl))
  f217 := Tryz.func109.trans (congrArg some (by kernel_rfl))
  f218 := Tryz.func86.trans (congrArg some (by kernel_rfl))
  f219 := Tryz.func116.trans (congrArg some (by kernel_rfl))
  f224 := Tryz.func140.trans (congrArg some (by kernel_rfl))
  f225 := Tryz.func139.trans (congrArg some (by kernel_rfl))
  f266 := Tryz.func134.trans (congrArg some (by kernel_rfl))
  f267 := Tryz.func141.trans (congrArg some (by kernel_rfl))
  f314 := Tryz.func157.trans (congrArg some (by kernel_rfl))
  t0 := Tryz.underlying0
  a0 := Tryz.isAgg0
  z0 := Tryz.sizeOf0
  v0 := Tryz.zeroValue0
  t3 := Tryz.underlying3
  a3 := Tryz.isAgg3
  z3 := Tryz.sizeOf3
  v3 := Tryz.zeroValue3
  t4 := Tryz.underlying4
  a4 := Tryz.isAgg4
  z4 := Tryz.sizeOf4
  v4 := Tryz.zeroValue4
  t5 := Tryz.underlying5
  a5 := Tryz.isAgg5
  z5 := Tryz.sizeOf5
  v5 := Tryz.zeroValue5
  t9 := Tryz.underlying9
  a9 := Tryz.isAgg9
  z9 := Tryz.sizeOf9
  v9 := Tryz.zeroValue9
  t46 := Tryz.underlying140
  a46 := Tryz.isAgg140
  z46 := Tryz.sizeOf140
  v46 := Tryz.zeroValue140
  t51 := Tryz.underlying156
  a51 := Tryz.isAgg156
  z51 := Tryz.sizeOf156
  v51 := Tryz.zeroValue156
  t146 := Tryz.underlying164
  a146 := Tryz.isAgg164
  z146 := Tryz.sizeOf164
  v146 := Tryz.zeroValue164
  g1 := by kernel_rfl }
open Go.RowKit Go.Lib in
theorem Tryz.strings_Count_one (s : ByteArray) (c : UInt8) (w : World) :
    Calls Tryz.prog 50 #[.string s, .string ⟨#[c]⟩] w fun e w' => e = .returned (.int .i64 (Lib.countByte s.data.toList c)) ∧ w' = w := Any.strings_Count_one Tryz.lays138 s c w
def Tryz.lays149_ren : Go.Shelf.Ren := ⟨fun | 149 => 51 | 222 => 88 | n => n, fun | 9 => 9 | 5 => 5 | 3 => 3 | 4 => 4 | n => n, fun | n => n⟩
theorem Tryz.lays149 : Go.Proofs.Lays.n149 Tryz.prog Tryz.lays149_ren := {
  mixed := by kernel_rfl
  f149 := Tryz.func51.trans (congrArg some (by kernel_rfl))
  f222 := Tryz.func88.trans (congrArg some (by kernel_rfl))
  t3 := Tryz.underlying3
  a3 := Tryz.isAgg3
  z3 := Tryz.sizeOf3
  v3 := Tryz.zeroValue3
  t4 := Tryz.underlying4
  a4 := Tryz.isAgg4
  z4 := Tryz.sizeOf4
  v4 := Tryz.zeroValue4
  t5 := Tryz.underlying5
  a5 := Tryz.isAgg5
  z5 := Tryz.sizeOf5
  v5 := Tryz.zeroValue5
  t9 := Tryz.underlying9
  a9 := Tryz.isAgg9
  z9 := Tryz.sizeOf9
  v9 := Tryz.zeroValue9 }
open Go.RowKit Go.Lib in
theorem Tryz.strings_LastIndexByte (s : ByteArray) (c : Int) (hs : s.size < 4611686018427387904) (w : World) :
    Calls Tryz.prog 51 #[.string s, .int .u8 c] w fun e w' => e = .returned (.int .i64 (Lib.lastIndexByte s c)) ∧ w' = w := Any.strings_LastIndexByte Tryz.lays149 s c hs w
end Go.Proofs


namespace Go.Proofs.YtmodjokoggmnaaaGreatDoor

open Go.RowKit Go.Shelf

theorem adv1_lt (q : Nat × Nat) (c : UInt8) : q.1 < (adv1 q c).1 ∨ (q.1 = (adv1 q c).1 ∧ q.2 < (adv1 q c).2) := by
  unfold adv1; split
  · left; simp
  · right; simp
theorem adv_lt (l : List UInt8) : ∀ q : Nat × Nat, l ≠ [] → q.1 < (adv q l).1 ∨ (q.1 = (adv q l).1 ∧ q.2 < (adv q l).2) := by
  induction l with
  | nil => intro q h; exact absurd rfl h
  | cons c r ih =>
    intro q _
    have h1 := adv1_lt q c
    have e : adv q (c :: r) = adv (adv1 q c) r := rfl
    rw [e]
    by_cases hr : r = []
    · subst hr; exact h1
    · have h2 := ih (adv1 q c) hr
      omega
theorem adv_inj {l : List UInt8} {q : Nat × Nat} {j k : Nat} (hj : j < k) (hk : k ≤ l.length) : adv q (l.take j) ≠ adv q (l.take k) := by
  intro h
  have e : adv q (l.take k) = adv (adv q (l.take j)) ((l.drop j).take (k - j)) := by rw [adv_split, show j + (k - j) = k by omega]
  have hne : (l.drop j).take (k - j) ≠ [] := by
    intro h0
    have := congrArg List.length h0
    rw [List.length_take, List.length_drop] at this
    simp at this; omega
  have := adv_lt _ (adv q (l.take j)) hne
  rw [← e, ← h] at this
  omega
theorem adv_bd (l : List UInt8) : ∀ q : Nat × Nat, 1 ≤ q.1 → 1 ≤ q.2 → 1 ≤ (adv q l).1 ∧ 1 ≤ (adv q l).2 ∧ (adv q l).1 ≤ q.1 + l.length ∧ (adv q l).2 ≤ q.2 + l.length := by
  induction l with
  | nil => intro q h1 h2; exact ⟨h1, h2, by simp [adv], by simp [adv]⟩
  | cons c r ih =>
    intro q h1 h2
    have e : adv q (c :: r) = adv (adv1 q c) r := rfl
    rw [e, List.length_cons]
    have h3 : 1 ≤ (adv1 q c).1 ∧ 1 ≤ (adv1 q c).2 ∧ (adv1 q c).1 ≤ q.1 + 1 ∧ (adv1 q c).2 ≤ q.2 + 1 := by unfold adv1; split <;> simp <;> omega
    have h4 := ih (adv1 q c) h3.1 h3.2.1
    omega
theorem adv_step {l : List UInt8} {q : Nat × Nat} {j : Nat} (hj : j < l.length) : adv q (l.take (j + 1)) = adv1 (adv q (l.take j)) l[j] := by
  rw [List.take_succ_eq_append_getElem hj, adv_append]; rfl

theorem bel_next {w w1 w2 : World} (h1 : Below w.heap.size w w1) (h2 : Below w1.heap.size w1 w2) : Below w.heap.size w w2 := h1.trans (h2.mono h1.size)
theorem bel_lit {w w1 : World} (h1 : Below w.heap.size w w1) (o : Obj) : Below w.heap.size w (w1.alloc o) := h1.alloc h1.size o
theorem bel_alloc {w w1 w2 : World} {o : Obj} (h1 : Below w.heap.size w w1) (h2 : Below (w1.alloc o).heap.size (w1.alloc o) w2) : Below w.heap.size w w2 := bel_next (bel_lit h1 o) h2
theorem two_set0 {w : World} {B : Nat} {p q : Value} {T : TypeId} (h : w.heap[B]? = some (.cells #[p, q] T (0, 0))) (v : Value) : (w.setCell ⟨B, 0, none⟩ v).heap[B]? = some (.cells #[v, q] T (0, 0)) := (heap_setCell_same w B 0 #[p, q] T v h).trans rfl
theorem two_set1 {w : World} {B : Nat} {p q : Value} {T : TypeId} (h : w.heap[B]? = some (.cells #[p, q] T (0, 0))) (v : Value) : (w.setCell ⟨B, 1, none⟩ v).heap[B]? = some (.cells #[p, v] T (0, 0)) := (heap_setCell_same w B 1 #[p, q] T v h).trans rfl
end Go.Proofs.YtmodjokoggmnaaaGreatDoor
