/-
  The bytes of a capability, and the reference's EncodeCap.
  Conditions: none.
-/
import Derived.Test.YtndppbfdcceflaaCaa
import Derived.Test.YtndppbfdcceflaaOwn
import Derived.Laws.Bits64b
namespace Go.Proofs.Ytndppbfdcceflaa

open Go.RowKit

/-- A number's lowest byte. -/
def u8 (n : Int) : UInt8 := UInt8.ofNat (n % 256).toNat
theorem u8_val (n : Int) : ((u8 n).toNat : Int) = n % 256 := by
  unfold u8
  have h0 := Int.emod_nonneg n (show (256 : Int) ≠ 0 by decide)
  have h1 := Int.emod_lt_of_pos n (show (0 : Int) < 256 by decide)
  rw [UInt8.toNat_ofNat']
  omega
theorem u8_back (b : UInt8) : u8 (b.toNat : Int) = b := by
  apply UInt8.toNat_inj.1
  have h := u8_val (b.toNat : Int)
  have := b.toNat_lt
  omega
/-- The number of a bit string. -/
def mN (m : Int) : Nat := (BitVec.ofInt 64 m).toNat
theorem mN_nat {a : Nat} (h : a < 18446744073709551616) : mN (a : Int) = a := by
  unfold mN; rw [BitVec.ofInt_natCast, BitVec.toNat_ofNat]; exact Nat.mod_eq_of_lt (by omega)
theorem and_eq (a b : Int) : bits .and .i64 a b = IntKind.i64.wrap ((mN a &&& mN b : Nat) : Int) := by
  show IntKind.i64.wrap ((BitVec.ofInt 64 a &&& BitVec.ofInt 64 b).toNat : Int) = _
  rw [BitVec.toNat_and]; rfl
theorem and_small {a : Nat} (h : a < 9223372036854775808) (m : Int) : bits .and .i64 (a : Int) m = ((a &&& mN m : Nat) : Int) := by
  rw [and_eq, mN_nat (by omega)]
  have := Nat.and_le_left (n := a) (m := mN m)
  exact IntWalk.i64_in _ (by omega)
theorem mN_and (a b : Int) : mN (bits .and .i64 a b) = mN a &&& mN b := by
  have h : bits .and .i64 a b = IntKind.i64.wrap ((BitVec.ofInt 64 a &&& BitVec.ofInt 64 b).toNat : Int) := rfl
  have hb : (BitVec.ofInt 64 a &&& BitVec.ofInt 64 b).toNat < 18446744073709551616 := (BitVec.ofInt 64 a &&& BitVec.ofInt 64 b).isLt
  unfold mN
  rw [h, ← BitVec.toNat_and]
  generalize BitVec.ofInt 64 a &&& BitVec.ofInt 64 b = x at *
  have e : IntKind.i64.wrap (x.toNat : Int) = (x.toNat : Int) ∨ IntKind.i64.wrap (x.toNat : Int) = (x.toNat : Int) - 18446744073709551616 := by
    rw [IntKind.wrap_i64]
    omega
  rcases e with e | e <;> rw [e]
  · rw [BitVec.ofInt_natCast, BitVec.toNat_ofNat]; exact Nat.mod_eq_of_lt hb
  · rw [BitVec.toNat_ofInt]
    omega
theorem and255 {x : Int} (h0 : 0 ≤ x) (h1 : x < 9223372036854775808) : bits .and .i64 x 255 = x % 256 := by
  obtain ⟨n, rfl⟩ : ∃ n : Nat, x = n := ⟨x.toNat, by omega⟩
  rw [and_small (by omega), show mN 255 = 255 from mN_nat (a := 255) (by decide), show (255 : Nat) = 2 ^ 8 - 1 by decide, Nat.and_two_pow_sub_one_eq_mod]
  omega
/-- The ten bytes of a capability. -/
def headC (c : GC) : List UInt8 := [u8 c.kind, u8 c.bits, u8 (if c.device = true then c.rights + 8 else c.rights), u8 c.width, u8 c.level]
def baseC (b : Int) : List UInt8 := [u8 b, u8 (b / 256), u8 (b / 65536), u8 (b / 16777216), u8 (b / 4294967296)]
def encC (c : GC) : List UInt8 := headC c ++ baseC c.base
theorem gc_vals : ∀ l : List UInt8, gcells (fun b : UInt8 => [Value.int .u8 (b.toNat : Int)]) l = vals l
  | [] => rfl
  | b :: l => by
    have := gc_vals l
    unfold gcells vals at *
    rw [List.flatMap_cons, this]; rfl
theorem own_lit (w : World) (base : Nat) (l : List UInt8) (hb : base ≤ w.heap.size) (hl : l.length ≤ 100) : Own (w.alloc (.cells (vals l).toArray 5)) base (.slice (some ⟨w.heap.size, 0, none⟩) l.length l.length) l := by
  have h := OwnG.lit (enc := fun b : UInt8 => [Value.int .u8 (b.toNat : Int)]) (k := 1) (fun _ => rfl) w base (T := 5) l (vals l).toArray (by rw [gc_vals]) hb (by unfold maxLen; omega)
  unfold Own
  unfold OwnG at h
  rw [gc_vals] at h
  exact h
/-- A byte is appended to bytes of the call's own. -/
theorem own_put {wA w0 : World} {base : Nat} {v : Value} {l : List UInt8} (h : Own wA base v l) (hb : Below base w0 wA) (hbase : base ≤ wA.heap.size) (x : Int) (hl : l.length ≤ 1000) (h0 : 0 ≤ x) (h1 : x < 9223372036854775808) :
    ∃ v' w', (Builtin.append_ #[39, 39] 39 #[v, .slice (some ⟨wA.heap.size, 0, none⟩) 1 1]).run Try.prog (wA.alloc (.cells #[.int .u8 (bits .and .i64 x 255 % 256)] 5)) = .ok v' w' ∧ Own w' base v' (l ++ [u8 x]) ∧ Below base w0 w' := by
  have ev : bits .and .i64 x 255 % 256 = ((u8 x).toNat : Int) := by rw [and255 h0 h1, u8_val]; omega
  rw [ev]
  have ho := own_lit wA wA.heap.size [u8 x] (Nat.le_refl _) (by simp)
  obtain ⟨A, cp, e, _, _, hby⟩ := ho.form
  injection e with e1 e2 e3
  subst e1
  obtain ⟨v', w', hr, hown, hb', _⟩ := (h.alloc (.cells (vals [u8 x]).toArray 5)).app (w0 := w0) 1 hby (hb.alloc hbase _) (by simp; omega) (by simp; omega)
  exact ⟨v', w', hr, hown, hb'⟩
theorem Own.low {w : World} {b b' : Nat} {v : Value} {l : List UInt8} (h : Own w b v l) (hb : b' ≤ b) : Own w b' v l := by
  refine ⟨h.1, ?_⟩
  rcases h.2 with hh | ⟨g, c, cur, e1, hbs, rest⟩
  · exact .inl hh
  · exact .inr ⟨g, c, cur, e1, by omega, rest⟩
def EncEnd (q : Int) (l : List UInt8) (w : World) (e : Ending) (w' : World) : Prop := ∃ v, e = .returned (.tuple #[v, .int .i64 q]) ∧ Own w' w.heap.size v l ∧ Below w.heap.size w w'
theorem vC_facts {c : GC} (h : vC c = true) : VR c.rng ∧ 6 ≤ c.bits ∧ c.bits ≤ 40 ∧ 1 ≤ c.kind ∧ c.kind ≤ 6 ∧ 0 ≤ c.rights ∧ c.rights ≤ 7 ∧ 0 ≤ c.width ∧ c.width ≤ 39 ∧ 0 ≤ c.level ∧ c.level ≤ 2 := by
  unfold vC at h
  simp only [Bool.and_eq_true, decide_eq_true_eq] at h
  obtain ⟨⟨⟨⟨⟨h1, h2⟩, h3⟩, h4⟩, h5⟩, _⟩ := h
  have hv := vR_iff.1 h2
  have hl := hv.lo
  have hh := hv.hi
  refine ⟨hv, hl, hh, ?_, ?_, h3, h4, ?_⟩
  · unfold sizB at h1
    split at h1
    · omega
    · split at h1
      · omega
      · simp at h1; omega
  · unfold sizB at h1
    split at h1
    · omega
    · split at h1
      · omega
      · simp at h1; omega
  · unfold tabB levB at h5
    split at h5
    · simp at h5; omega
    · simp at h5; omega
end Go.Proofs.Ytndppbfdcceflaa
