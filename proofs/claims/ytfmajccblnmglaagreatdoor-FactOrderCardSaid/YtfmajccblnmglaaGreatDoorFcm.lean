/-
  Facts as plain data, and their order: a total order of values and of facts.
  Conditions: none.
-/
import Derived.Lib.Bytealg
import Derived.Lib.Small
import Derived.Lib.Hide
namespace Go.Proofs.YtfmajccblnmglaaGreatDoor

/-- c is the three-way comparison of a total order. -/
structure Ord3 {α : Type} (c : α → α → Int) : Prop where
  r : ∀ a b, -1 ≤ c a b ∧ c a b ≤ 1
  z : ∀ a b, c a b = 0 ↔ a = b
  n : ∀ a b, c b a = - c a b
  t : ∀ a b d, c a b < 0 → c b d < 0 → c a d < 0
theorem Ord3.of {α β : Type} {c : α → α → Int} (h : Ord3 c) (f : β → α) (hf : ∀ x y, f x = f y → x = y) : Ord3 (fun x y => c (f x) (f y)) :=
  ⟨fun _ _ => h.r _ _, fun a b => ⟨fun e => hf _ _ ((h.z _ _).1 e), fun e => by rw [e]; exact (h.z _ _).2 rfl⟩, fun _ _ => h.n _ _, fun _ _ _ => h.t _ _ _⟩
def then3 (x y : Int) : Int := if x ≠ 0 then x else y
def lex3 {α β : Type} (c : α → α → Int) (d : β → β → Int) (x y : α × β) : Int := then3 (c x.1 y.1) (d x.2 y.2)
theorem Ord3.self {α : Type} {c : α → α → Int} (h : Ord3 c) (a : α) : c a a = 0 := (h.z a a).2 rfl
theorem Ord3.lex {α β : Type} {c : α → α → Int} {d : β → β → Int} (hc : Ord3 c) (hd : Ord3 d) : Ord3 (lex3 c d) := by
  refine ⟨fun a b => ?_, fun a b => ?_, fun a b => ?_, fun a b e h1 h2 => ?_⟩
  · have h1 := hc.r a.1 b.1
    have h2 := hd.r a.2 b.2
    unfold lex3 then3; split <;> omega
  · unfold lex3 then3
    split
    · rename_i h
      exact ⟨fun e => absurd e h, fun e => absurd (by rw [e]; exact hc.self _) h⟩
    · rename_i h
      have h1 : a.1 = b.1 := (hc.z _ _).1 (by omega)
      rw [hd.z]
      exact ⟨fun e => Prod.ext h1 e, fun e => by rw [e]⟩
  · have h1 := hc.n a.1 b.1
    have h2 := hd.n a.2 b.2
    unfold lex3 then3; split <;> split <;> omega
  · unfold lex3 then3 at h1 h2 ⊢
    by_cases x : c a.1 b.1 = 0
    · have e1 : a.1 = b.1 := (hc.z _ _).1 x
      by_cases y : c b.1 e.1 = 0
      · have e2 : b.1 = e.1 := (hc.z _ _).1 y
        have z : c a.1 e.1 = 0 := by rw [e1]; exact y
        rw [if_neg (by omega)] at h1 h2 ⊢
        exact hd.t _ _ _ h1 h2
      · rw [if_pos y] at h2
        rw [e1, if_pos y]; exact h2
    · rw [if_pos x] at h1
      by_cases y : c b.1 e.1 = 0
      · have e2 : b.1 = e.1 := (hc.z _ _).1 y
        rw [← e2, if_pos x]; exact h1
      · rw [if_pos y] at h2
        have := hc.t _ _ _ h1 h2
        rw [if_pos (by omega)]; exact this
def list3 {α : Type} (c : α → α → Int) : List α → List α → Int
  | [], [] => 0
  | [], _ :: _ => -1
  | _ :: _, [] => 1
  | a :: as, b :: bs => then3 (c a b) (list3 c as bs)
theorem Ord3.list {α : Type} {c : α → α → Int} (hc : Ord3 c) : Ord3 (list3 c) := by
  refine ⟨fun a => ?_, fun a => ?_, fun a => ?_, fun a => ?_⟩
  · induction a with
    | nil => intro b; cases b <;> simp [list3]
    | cons x xs ih =>
      intro b
      cases b with
      | nil => simp [list3]
      | cons y ys => have h1 := hc.r x y; have h2 := ih ys; unfold list3 then3; split <;> omega
  · induction a with
    | nil => intro b; cases b <;> simp [list3]
    | cons x xs ih =>
      intro b
      cases b with
      | nil => simp [list3]
      | cons y ys =>
        unfold list3 then3
        split
        · rename_i h
          exact ⟨fun e => absurd e h, fun e => absurd (by injection e with e1 _; rw [e1]; exact hc.self _) h⟩
        · rename_i h
          have h1 : x = y := (hc.z _ _).1 (by omega)
          rw [ih, h1]
          exact ⟨fun e => by rw [e], fun e => by injection e⟩
  · induction a with
    | nil => intro b; cases b <;> simp [list3]
    | cons x xs ih =>
      intro b
      cases b with
      | nil => simp [list3]
      | cons y ys => have h1 := hc.n x y; have h2 := ih ys; unfold list3 then3; split <;> split <;> omega
  · induction a with
    | nil =>
      intro b e h1 h2
      cases b with
      | nil => exact h2
      | cons y ys => cases e with
        | nil => simp [list3] at h2
        | cons v vs => simp [list3]
    | cons x xs ih =>
      intro b e h1 h2
      cases b with
      | nil => simp [list3] at h1
      | cons y ys => cases e with
        | nil => simp [list3] at h2
        | cons v vs =>
          unfold list3 then3 at h1 h2 ⊢
          by_cases p : c x y = 0
          · have e1 : x = y := (hc.z _ _).1 p
            rw [if_neg (by omega)] at h1
            by_cases q : c y v = 0
            · rw [if_neg (by omega)] at h2
              rw [e1, if_neg (by omega)]
              exact ih _ _ h1 h2
            · rw [if_pos q] at h2
              rw [e1, if_pos q]; exact h2
          · rw [if_pos p] at h1
            by_cases q : c y v = 0
            · rw [← (hc.z _ _).1 q, if_pos p]; exact h1
            · rw [if_pos q] at h2
              have := hc.t _ _ _ h1 h2
              rw [if_pos (by omega)]; exact this

theorem ord_int : Ord3 Lib.compareInt := by
  refine ⟨fun a b => ?_, fun a b => ?_, fun a b => ?_, fun a b d h1 h2 => ?_⟩
  · unfold Lib.compareInt; split
    · omega
    · split <;> omega
  · unfold Lib.compareInt; split
    · omega
    · split <;> omega
  · unfold Lib.compareInt; split <;> split <;> (try split) <;> (try split) <;> omega
  · unfold Lib.compareInt at *
    split at h1
    · split at h2
      · rw [if_pos (by omega)]; omega
      · split at h2 <;> omega
    · split at h1 <;> omega
def byte3 (a b : UInt8) : Int := Lib.compareInt a.toNat b.toNat
theorem ord_byte : Ord3 byte3 := ord_int.of (fun a : UInt8 => (a.toNat : Int)) (fun x y h => UInt8.toNat_inj.1 (by omega))
theorem bytes_list3 : ∀ a b : List UInt8, Lib.compareBytes a b = list3 byte3 a b
  | [], [] => rfl
  | [], _ :: _ => rfl
  | _ :: _, [] => rfl
  | a :: as, b :: bs => by
    unfold Lib.compareBytes list3
    rw [bytes_list3 as bs]
    have h1 : a < b ↔ a.toNat < b.toNat := UInt8.lt_iff_toNat_lt
    have h2 : b < a ↔ b.toNat < a.toNat := UInt8.lt_iff_toNat_lt
    unfold then3 byte3 Lib.compareInt
    by_cases x : a.toNat < b.toNat
    · rw [if_pos (h1.2 x), if_pos (show (a.toNat : Int) < b.toNat by omega)]; simp
    · rw [if_neg (fun h => x (h1.1 h)), if_neg (show ¬ (a.toNat : Int) < b.toNat by omega)]
      by_cases y : b.toNat < a.toNat
      · rw [if_pos (h2.2 y), if_pos (show (a.toNat : Int) > b.toNat by omega)]; simp
      · rw [if_neg (fun h => y (h2.1 h)), if_neg (show ¬ (a.toNat : Int) > b.toNat by omega)]; simp
theorem ord_bytes : Ord3 Lib.compareBytes := by
  have h : Lib.compareBytes = list3 byte3 := funext fun a => funext fun b => bytes_list3 a b
  rw [h]; exact ord_byte.list

structure GVal where
  kind : Int
  int : Int
  word : List UInt8
def GVal.t (v : GVal) : Int × (Int × List UInt8) := (v.kind, (v.int, v.word))
theorem GVal.t_inj (x y : GVal) (h : x.t = y.t) : x = y := by
  obtain ⟨a, b, c⟩ := x
  obtain ⟨a', b', c'⟩ := y
  simp [GVal.t] at h
  obtain ⟨rfl, rfl, rfl⟩ := h; rfl
def cmpV (a b : GVal) : Int := lex3 Lib.compareInt (lex3 Lib.compareInt Lib.compareBytes) a.t b.t
theorem ord_val : Ord3 cmpV := (ord_int.lex (ord_int.lex ord_bytes)).of GVal.t GVal.t_inj
theorem cmpV_eq (a b : GVal) : cmpV a b = then3 (Lib.compareInt a.kind b.kind) (then3 (Lib.compareInt a.int b.int) (Lib.compareBytes a.word b.word)) := rfl

structure GFact where
  rel : List UInt8
  args : List GVal
def GFact.t (f : GFact) : List UInt8 × (Int × List GVal) := (f.rel, ((f.args.length : Int), f.args))
theorem GFact.t_inj (x y : GFact) (h : x.t = y.t) : x = y := by
  obtain ⟨a, b⟩ := x
  obtain ⟨a', b'⟩ := y
  simp [GFact.t] at h
  obtain ⟨rfl, _, rfl⟩ := h; rfl
def cmpF (a b : GFact) : Int := lex3 Lib.compareBytes (lex3 Lib.compareInt (list3 cmpV)) a.t b.t
theorem ord_fact : Ord3 cmpF := (ord_bytes.lex (ord_int.lex ord_val.list)).of GFact.t GFact.t_inj
theorem cmpF_eq (a b : GFact) : cmpF a b = then3 (Lib.compareBytes a.rel b.rel) (then3 (Lib.compareInt a.args.length b.args.length) (list3 cmpV a.args b.args)) := rfl

/-- The laws that FactOrder asks. -/
theorem Ord3.laws {α : Type} {c : α → α → Int} (h : Ord3 c) (a b d : α) : (c a b ≤ 0 → c b d ≤ 0 → c a d ≤ 0) ∧ (0 ≤ c a b → 0 ≤ c b d → 0 ≤ c a d) ∧ (c a b = 0 → c b d = 0 → c a d = 0) := by
  have le : ∀ a b d, c a b ≤ 0 → c b d ≤ 0 → c a d ≤ 0 := fun a b d h1 h2 => by
    by_cases x : c a b = 0
    · rw [(h.z _ _).1 x]; exact h2
    · by_cases y : c b d = 0
      · rw [← (h.z _ _).1 y]; exact h1
      · have := h.t a b d (by omega) (by omega); omega
  refine ⟨le a b d, fun h1 h2 => ?_, fun h1 h2 => ?_⟩
  · have e1 := h.n a b
    have e2 := h.n b d
    have e3 := h.n a d
    have := le d b a (by omega) (by omega)
    omega
  · rw [(h.z _ _).1 h1]; exact h2
/-- The first k elements agree: what the comparison of two lists goes by from there. -/
theorem list3_at {α : Type} {c : α → α → Int} (h0 : ∀ a, c a a = 0) : ∀ (k : Nat) (xs ys : List α), xs.take k = ys.take k → k ≤ xs.length → k ≤ ys.length → list3 c xs ys = list3 c (xs.drop k) (ys.drop k)
  | 0, xs, ys, _, _, _ => by simp
  | k + 1, [], ys, _, h1, _ => by simp at h1
  | k + 1, _ :: _, [], _, _, h2 => by simp at h2
  | k + 1, x :: xs, y :: ys, h, h1, h2 => by
    simp at h h1 h2
    obtain ⟨rfl, h⟩ := h
    show then3 (c x x) _ = _
    rw [h0]
    show list3 c xs ys = _
    rw [list3_at h0 k xs ys h h1 h2]; simp
end Go.Proofs.YtfmajccblnmglaaGreatDoor
