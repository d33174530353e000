/-
  The reference's reader of numbers in plain words: it undoes PutUvarint.
  Conditions: none.
  The reference's reader: Number and Id.
  Conditions: the bytes lie below the reader's block.
-/
import Derived.Test.YtnoegjfokceghaaMc15
import Derived.Test.YtnoegjfokceghaaMc25
namespace Go.Proofs.Ytnoegjfokceghaa

structure RS12 where
  l : List UInt8
  bad : Bool
/-- Number: at most so many bytes more, the next byte's weight, what has been read. -/
def numR : Nat → Nat → Nat → RS12 → Nat × RS12
  | 0, _, _, s => (0, ⟨s.l, true⟩)
  | f + 1, m, a, s => if s.bad = true then (0, ⟨s.l, true⟩) else match s.l with
    | [] => (0, ⟨[], true⟩)
    | x :: r => if x.toNat < 128 then (a + x.toNat % 128 * m, ⟨r, false⟩) else numR f (m * 128) (a + x.toNat % 128 * m) ⟨r, false⟩
def numS (s : RS12) : Nat × RS12 := numR 5 1 0 s
theorem numR_uvar (r : List UInt8) : ∀ (f k m a v : Nat), v < 128 ^ (f + 1) → f ≤ k → numR (f + 1) m a ⟨uvarF (k + 1) v ++ r, false⟩ = (a + v * m, ⟨r, false⟩) := by
  intro f
  induction f with
  | zero =>
    intro k m a v hv _
    rw [Nat.pow_one] at hv
    rw [uvarF_last k v hv]
    have e : (UInt8.ofNat v).toNat = v := by simp; omega
    show (if false = true then _ else (if (UInt8.ofNat v).toNat < 128 then _ else _)) = _
    rw [if_neg (by simp), e, if_pos hv, Nat.mod_eq_of_lt hv]; rfl
  | succ f ih =>
    intro k m a v hv hk
    rcases Nat.lt_or_ge v 128 with h | h
    · rw [uvarF_last k v h]
      have e : (UInt8.ofNat v).toNat = v := by simp; omega
      show (if false = true then _ else (if (UInt8.ofNat v).toNat < 128 then _ else _)) = _
      rw [if_neg (by simp), e, if_pos h, Nat.mod_eq_of_lt h]; rfl
    · obtain ⟨k, rfl⟩ : ∃ j, k = j + 1 := ⟨k - 1, by omega⟩
      rw [uvarF_more (k + 1) v h]
      have e : (UInt8.ofNat (v % 128 + 128)).toNat = v % 128 + 128 := by simp; omega
      show (if false = true then _ else (if (UInt8.ofNat (v % 128 + 128)).toNat < 128 then _ else numR (f + 1) (m * 128) (a + (UInt8.ofNat (v % 128 + 128)).toNat % 128 * m) ⟨uvarF (k + 1) (v / 128) ++ r, false⟩)) = _
      rw [if_neg (by simp), e, if_neg (by omega), ih k (m * 128) _ (v / 128) (Nat.div_lt_of_lt_mul (by rw [Nat.pow_succ] at hv; omega)) (by omega)]
      have e2 : (v % 128 + 128) % 128 = v % 128 := by omega
      have e3 : v / 128 * (m * 128) = 128 * (v / 128) * m := by rw [Nat.mul_comm m 128, ← Nat.mul_assoc, Nat.mul_comm (v / 128) 128]
      rw [e2, e3, Nat.add_assoc, ← Nat.add_mul, Nat.mod_add_div]
theorem numS_uvar {v : Nat} (hv : v < 34359738368) (r : List UInt8) : numS ⟨uvar v ++ r, false⟩ = (v, ⟨r, false⟩) := by
  have h := numR_uvar r 4 9 1 0 v (by simpa using hv) (by omega)
  rw [Nat.zero_add, Nat.mul_one] at h
  exact h
theorem numR_len : ∀ (f m a : Nat) (s : RS12), (numR f m a s).2.l.length ≤ s.l.length ∧ ((numR f m a s).2.bad = false → (numR f m a s).2.l.length < s.l.length ∧ s.bad = false)
  | 0, _, _, s => ⟨Nat.le_refl _, fun h => by cases h⟩
  | f + 1, m, a, ⟨l, b⟩ => by
    unfold numR
    cases b with
    | true => exact ⟨Nat.le_refl _, fun h => by cases h⟩
    | false =>
      rw [if_neg (by simp)]
      cases l with
      | nil => exact ⟨Nat.le_refl _, fun h => by cases h⟩
      | cons x r =>
        simp only
        split
        · exact ⟨by simp, fun _ => ⟨by simp, trivial⟩⟩
        · have ih := numR_len f (m * 128) (a + x.toNat % 128 * m) ⟨r, false⟩
          simp only [List.length_cons] at ih ⊢
          exact ⟨by omega, fun h => ⟨by have := (ih.2 h).1; omega, trivial⟩⟩
/-- Reader.Id. -/
def idS (s : RS12) : GId × RS12 := (⟨((numS s).1 : Int), ((numS (numS s).2).1 : Int), ((numS (numS (numS s).2).2).1 : Int)⟩, (numS (numS (numS s).2).2).2)
theorem idS_idL {x : GId} (hx : vI x = true) (r : List UInt8) : idS ⟨idL x ++ r, false⟩ = (x, ⟨r, false⟩) := by
  obtain ⟨c0, c1, o0, o1, p0, p1⟩ := vI_iff.1 hx
  obtain ⟨xc, xo, xp⟩ := x
  simp only at c0 c1 o0 o1 p0 p1
  have e : idL ⟨xc, xo, xp⟩ ++ r = uvar xc.toNat ++ (uvar xo.toNat ++ (uvar xp.toNat ++ r)) := by unfold idL; simp
  unfold idS
  rw [e, numS_uvar (by omega), numS_uvar (by omega), numS_uvar (by omega)]
  simp only [Prod.mk.injEq, GId.mk.injEq, and_true]
  omega
/-- The first k Ids, asx the loop of DecodeNode reads them. -/
def idsS : Nat → RS12 → List GId × RS12
  | 0, s => ([], s)
  | k + 1, s => if s.bad = true then ([], s) else ((idS s).1 :: (idsS k (idS s).2).1, (idsS k (idS s).2).2)
theorem idsS_flat : ∀ (xs : List GId) (_ : ∀ k (hk : k < xs.length), vI xs[k] = true) (r : List UInt8), idsS xs.length ⟨xs.flatMap idL ++ r, false⟩ = (xs, ⟨r, false⟩)
  | [], _, r => rfl
  | x :: xs, h, r => by
    have hx : vI x = true := h 0 (by simp)
    have ih := idsS_flat xs (fun k hk => by have := h (k + 1) (by simpa using hk); simpa using this) r
    rw [List.length_cons, idsS, if_neg (by simp), List.flatMap_cons, List.append_assoc, idS_idL hx]
    simp only [ih]
end Go.Proofs.Ytnoegjfokceghaa


namespace Go.Proofs.Ytnoegjfokceghaa
open Go.RowKit

/-- The reference's reader lies in block R and has these bytes left. -/
def RF (W : World) (R : Nat) (s : RS12) : Prop := ∃ A m c, W.heap[R]? = some (.cells #[.slice A m c, .bool s.bad] 83 (0, 0)) ∧ Byt W R A m s.l ∧ m ≤ c
theorem RF.lt {W : World} {R : Nat} {s : RS12} (h : RF W R s) : R < W.heap.size := by
  obtain ⟨A, m, c, h, _⟩ := h
  rcases Nat.lt_or_ge R W.heap.size with h1 | h1
  · exact h1
  · rw [Array.getElem?_eq_none h1] at h; cases h
theorem RF.next {W W' : World} {R : Nat} {s : RS12} (h : RF W R s) (hb : Below W.heap.size W W') : RF W' R s := by
  have hl := h.lt
  obtain ⟨A, m, c, h, hb2, hm⟩ := h
  exact ⟨A, m, c, (hb.block R hl).trans h, hb2.below (hb.mono (by omega)), hm⟩
theorem RF.fail {W : World} {R : Nat} {s : RS12} (h : RF W R s) : RF (W.setCell ⟨R, 1, none⟩ (.bool true)) R ⟨s.l, true⟩ := by
  obtain ⟨A, m, c, h, hb2, hm⟩ := h
  exact ⟨A, m, c, by simp [World.setCell, Array.getElem?_modify, h], hb2.below ((Below.refl R W).setCell (p := ⟨R, 1, none⟩) (Nat.le_refl _) _), hm⟩
theorem RF.eat {W : World} {R : Nat} {A : Option Addr} {m c : Nat} {bad : Bool} {l : List UInt8} (h : W.heap[R]? = some (.cells #[.slice A m c, .bool bad] 83 (0, 0))) (hb : Byt W R A m l) (hm : m ≤ c) (j : Nat) (hj : j ≤ m) : RF (W.setCell ⟨R, 0, none⟩ (.slice (cutA A c j) (m - j) (c - j))) R ⟨l.drop j, bad⟩ := by
  have hc := hb.cut (j := j) (k := m) (cap := c) hj (Nat.le_refl _) hm
  rw [← hb.1, List.take_length, hb.1] at hc
  exact ⟨cutA A c j, m - j, c - j, by simp [World.setCell, Array.getElem?_modify, h], hc.below ((Below.refl R W).setCell (p := ⟨R, 0, none⟩) (Nat.le_refl _) _), by omega⟩
theorem num_end {m a : Nat} (s : RS12) : numR 0 m a s = (0, ⟨s.l, true⟩) := rfl
theorem num_bad {f m a : Nat} {s : RS12} (h : s.bad = true ∨ s.l = []) : numR (f + 1) m a s = (0, ⟨s.l, true⟩) := by
  obtain ⟨l, bad⟩ := s
  unfold numR
  rcases h with h | h
  · rw [if_pos h]
  · simp only at h
    subst h
    split <;> rfl
theorem num_more {f m a : Nat} {x : UInt8} {r : List UInt8} (h : ¬ x.toNat < 128) : numR (f + 1) m a ⟨x :: r, false⟩ = numR f (m * 128) (a + x.toNat % 128 * m) ⟨r, false⟩ := by
  show (if false = true then _ else (if x.toNat < 128 then _ else _)) = _
  rw [if_neg (by simp), if_neg h]
theorem num_last {f m a : Nat} {x : UInt8} {r : List UInt8} (h : x.toNat < 128) : numR (f + 1) m a ⟨x :: r, false⟩ = (a + x.toNat % 128 * m, ⟨r, false⟩) := by
  show (if false = true then _ else (if x.toNat < 128 then _ else _)) = _
  rw [if_neg (by simp), if_pos h]
set_option maxRecDepth 20000 in
set_option maxHeartbeats 4000000 in
theorem rNum_any (R : Nat) (s : RS12) (w : World) (hr : RF w R s) : Calls Try.prog 59 #[.pointer (some ⟨R, 0, none⟩)] w fun e w' => e = .returned (.int .i64 ((numS s).1 : Nat)) ∧ RF w' R (numS s).2 ∧ Ko R w w' := by
  have HEND : Hid (∀ (v : Nat) (t : RS12) W, (v, t) = numR 5 1 0 s → RF W R t → Ko R w W → Ending.returned (.int .i64 (v : Int)) = .returned (.int .i64 ((numS s).1 : Nat)) ∧ RF W R (numS s).2 ∧ Ko R w W) := Lib.hid fun v t W h1 h2 h3 => by
    unfold numS
    rw [← h1]
    exact ⟨rfl, h2, h3⟩
  have HS0 := Lib.hid hr
  obtain ⟨q, hq⟩ : ∃ q, q = numR 5 1 0 s := ⟨_, rfl⟩
  rw [← hq] at HEND
  have HQ0 := Lib.hid hq
  clear hq
  generalize numS s = qq at *
  clear hr
  go_enter Try.func59, Try.ntmps59
  go_wp2
  go_loopw [3, 4] (fun v3 vi wr => ∃ (k a : Nat) (t : RS12), vi = .int .i64 k ∧ v3 = .int .i64 a ∧ k ≤ 5 ∧ a < 128 ^ k ∧ Hid (q = numR (5 - k) (128 ^ k) a t) ∧ Hid (RF wr R t) ∧ Hid (Ko R w wr)) (fun _ vi _ => 5 - (intOf vi).toNat)
  case atStart => exact ⟨0, 0, s, rfl, rfl, by omega, by decide, HQ0, HS0, Lib.hid (Ko.bel (Below.refl _ _))⟩
  case round =>
    obtain ⟨k, a, ⟨l, bad⟩, rfl, rfl, hk, ha, HQ, HS, HK⟩ := hrel
    obtain ⟨A, m, c, hh, hby, hmc⟩ := HS.out
    have r0 : wr.cell? ⟨R, 0, none⟩ = some (.slice A m c) := by rw [Lib.cell_of_heap hh]; rfl
    have r1 : wr.cell? ⟨R, 1, none⟩ = some (.bool bad) := by rw [Lib.cell_of_heap hh]; rfl
    have rf := Lib.frozen_of_heap hh
    have rl := HS.out.lt
    have HF := Lib.hid HS.out.fail
    simp only at HF
    by_cases h5 : k = 5
    · subst h5
      have HX := Lib.hid (HEND.out 0 ⟨l, true⟩ (wr.setCell ⟨R, 1, none⟩ (.bool true)) (by rw [HQ.out, num_end]) HF.out (HK.out.set _ _))
      have f1 : decide (((5 : Nat) : Int) < 5) = false := by simp
      clear ha
      go_wp2
      go_ret
      exact HX.out
    have f1 : decide ((k : Int) < 5) = true := by simp; omega
    obtain ⟨f, hf⟩ : ∃ f, 5 - k = f + 1 := ⟨4 - k, by omega⟩
    rw [hf] at HQ
    by_cases hb : bad = true ∨ l = []
    · have HX := Lib.hid (HEND.out 0 ⟨l, true⟩ (wr.setCell ⟨R, 1, none⟩ (.bool true)) (by rw [HQ.out, num_bad hb]) HF.out (HK.out.set _ _))
      rcases bad with _ | _
      · have hl0 : l = [] := by simpa using hb
        have hm0 : m = 0 := by rw [← hby.1, hl0]; rfl
        have f2 : ((m : Int) == 0) = true := by simp [hm0]
        clear hb hl0 hm0 ha hf
        go_wp2
        go_ret
        exact HX.out
      · clear hb ha hf
        go_wp2
        go_ret
        exact HX.out
    have hbad : bad = false := by simpa using fun h => hb (.inl h)
    subst hbad
    rcases l with _ | ⟨x, r⟩
    · exact absurd (.inr rfl) hb
    have hm1 : 1 ≤ m := by rw [← hby.1]; simp
    have f2 : ((m : Int) == 0) = false := by simp; omega
    obtain ⟨b0, o0, rfl, hb0, hcc⟩ := hby.at_ (by omega)
    have x0 := hcc 0 (by omega)
    rw [Nat.add_zero] at x0
    have hx0 : bt (x :: r) 0 = x.toNat := rfl
    rw [hx0] at x0
    have hxl : x.toNat < 256 := x.toNat_lt
    have HE := Lib.hid (RF.eat hh hby hmc 1 hm1)
    have hcut : ∀ W : World, (Instr.sliceAt 45 (.slice (some ⟨b0, o0, none⟩) m c) (some (.int .i64 1)) none none).run Try.prog W = .ok (.slice (cutA (some ⟨b0, o0, none⟩) c 1) (m - 1) (c - 1)) W := fun W => cut_from (some ⟨b0, o0, none⟩) m c 1 hm1 W
    have hcut2 : ∀ W : World, (Instr.slice 45 (.slice (some ⟨b0, o0, none⟩) m c) (some (.int .i64 1)) none none).run Try.prog W = .ok (.slice (cutA (some ⟨b0, o0, none⟩) c 1) (m - 1) (c - 1)) W := fun W => by
      have h := hcut W
      rw [run_sliceAt_slice _ _ _ _ _ _ byte_elem] at h
      exact h
    rw [show List.drop 1 (x :: r) = r from rfl] at HE
    have hmf : decide ((0 : Int) < (m : Int)) = true := by simp; omega
    generalize cutA (some ⟨b0, o0, none⟩) c 1 = AC at *
    clear hcc hx0 hb rf HF
    have rf := Lib.frozen_of_heap hh
    obtain rfl | rfl | rfl | rfl | rfl : k = 0 ∨ k = 1 ∨ k = 2 ∨ k = 3 ∨ k = 4 := by omega
    · obtain rfl : f = 4 := by omega
      have ha2 : a < 1 := ha
      have hv : (a : Int) + (x.toNat : Int) % 128 = ((a + x.toNat % 128 * 128 ^ 0 : Nat) : Int) := by
        rw [show (128 : Nat) ^ 0 = 1 from rfl]; omega
      clear hf ha f1 hk
      by_cases hx : x.toNat < 128
      · have HX := Lib.hid (HEND.out (a + x.toNat % 128 * 128 ^ 0) ⟨r, false⟩ (wr.setCell ⟨R, 0, none⟩ (.slice AC (m - 1) (c - 1))) (by rw [HQ.out]; exact (num_last hx).symm) HE.out (HK.out.set _ _))
        rw [← hv] at HX
        have f4 : decide ((x.toNat : Int) < 128) = true := by simp; omega
        clear hx hv
        go_wp2
        go_ret
        exact HX.out
      · have HQ2 : Hid (q = numR (5 - 1) (128 ^ 1) (a + x.toNat % 128 * 128 ^ 0) ⟨r, false⟩) := Lib.hid (HQ.out.trans (num_more hx))
        have HK2 := Lib.hid (HK.out.set 0 (.slice AC (m - 1) (c - 1)))
        have ha3 : a + x.toNat % 128 * 128 ^ 0 < 128 ^ 1 := by
          rw [show (128 : Nat) ^ 0 = 1 from rfl, show (128 : Nat) ^ 1 = 128 from rfl]; omega
        have HV := Lib.hid hv
        have HA3 := Lib.hid ha3
        have f4 : decide ((x.toNat : Int) < 128) = false := by simp; omega
        clear hx hv ha3
        go_wp2
        rw [HV.out]
        go_roundw
        case rel => exact ⟨1, _, ⟨r, false⟩, rfl, rfl, by omega, HA3.out, HQ2, HE, HK2⟩
        case measure => simp [intOf]
    · obtain rfl : f = 3 := by omega
      have ha2 : a < 128 := ha
      have hv : (a : Int) + (x.toNat : Int) % 128 * 128 = ((a + x.toNat % 128 * 128 ^ 1 : Nat) : Int) := by
        rw [show (128 : Nat) ^ 1 = 128 from rfl]; omega
      clear hf ha f1 hk
      by_cases hx : x.toNat < 128
      · have HX := Lib.hid (HEND.out (a + x.toNat % 128 * 128 ^ 1) ⟨r, false⟩ (wr.setCell ⟨R, 0, none⟩ (.slice AC (m - 1) (c - 1))) (by rw [HQ.out]; exact (num_last hx).symm) HE.out (HK.out.set _ _))
        rw [← hv] at HX
        have f4 : decide ((x.toNat : Int) < 128) = true := by simp; omega
        clear hx hv
        go_wp2
        go_ret
        exact HX.out
      · have HQ2 : Hid (q = numR (5 - 2) (128 ^ 2) (a + x.toNat % 128 * 128 ^ 1) ⟨r, false⟩) := Lib.hid (HQ.out.trans (num_more hx))
        have HK2 := Lib.hid (HK.out.set 0 (.slice AC (m - 1) (c - 1)))
        have ha3 : a + x.toNat % 128 * 128 ^ 1 < 128 ^ 2 := by
          rw [show (128 : Nat) ^ 1 = 128 from rfl, show (128 : Nat) ^ 2 = 16384 from rfl]; omega
        have HV := Lib.hid hv
        have HA3 := Lib.hid ha3
        have f4 : decide ((x.toNat : Int) < 128) = false := by simp; omega
        clear hx hv ha3
        go_wp2
        rw [HV.out]
        go_roundw
        case rel => exact ⟨2, _, ⟨r, false⟩, rfl, rfl, by omega, HA3.out, HQ2, HE, HK2⟩
        case measure => simp [intOf]
    · obtain rfl : f = 2 := by omega
      have ha2 : a < 16384 := ha
      have hv : (a : Int) + (x.toNat : Int) % 128 * 16384 = ((a + x.toNat % 128 * 128 ^ 2 : Nat) : Int) := by
        rw [show (128 : Nat) ^ 2 = 16384 from rfl]; omega
      clear hf ha f1 hk
      by_cases hx : x.toNat < 128
      · have HX := Lib.hid (HEND.out (a + x.toNat % 128 * 128 ^ 2) ⟨r, false⟩ (wr.setCell ⟨R, 0, none⟩ (.slice AC (m - 1) (c - 1))) (by rw [HQ.out]; exact (num_last hx).symm) HE.out (HK.out.set _ _))
        rw [← hv] at HX
        have f4 : decide ((x.toNat : Int) < 128) = true := by simp; omega
        clear hx hv
        go_wp2
        go_ret
        exact HX.out
      · have HQ2 : Hid (q = numR (5 - 3) (128 ^ 3) (a + x.toNat % 128 * 128 ^ 2) ⟨r, false⟩) := Lib.hid (HQ.out.trans (num_more hx))
        have HK2 := Lib.hid (HK.out.set 0 (.slice AC (m - 1) (c - 1)))
        have ha3 : a + x.toNat % 128 * 128 ^ 2 < 128 ^ 3 := by
          rw [show (128 : Nat) ^ 2 = 16384 from rfl, show (128 : Nat) ^ 3 = 2097152 from rfl]; omega
        have HV := Lib.hid hv
        have HA3 := Lib.hid ha3
        have f4 : decide ((x.toNat : Int) < 128) = false := by simp; omega
        clear hx hv ha3
        go_wp2
        rw [HV.out]
        go_roundw
        case rel => exact ⟨3, _, ⟨r, false⟩, rfl, rfl, by omega, HA3.out, HQ2, HE, HK2⟩
        case measure => simp [intOf]
    · obtain rfl : f = 1 := by omega
      have ha2 : a < 2097152 := ha
      have hv : (a : Int) + (x.toNat : Int) % 128 * 2097152 = ((a + x.toNat % 128 * 128 ^ 3 : Nat) : Int) := by
        rw [show (128 : Nat) ^ 3 = 2097152 from rfl]; omega
      clear hf ha f1 hk
      by_cases hx : x.toNat < 128
      · have HX := Lib.hid (HEND.out (a + x.toNat % 128 * 128 ^ 3) ⟨r, false⟩ (wr.setCell ⟨R, 0, none⟩ (.slice AC (m - 1) (c - 1))) (by rw [HQ.out]; exact (num_last hx).symm) HE.out (HK.out.set _ _))
        rw [← hv] at HX
        have f4 : decide ((x.toNat : Int) < 128) = true := by simp; omega
        clear hx hv
        go_wp2
        go_ret
        exact HX.out
      · have HQ2 : Hid (q = numR (5 - 4) (128 ^ 4) (a + x.toNat % 128 * 128 ^ 3) ⟨r, false⟩) := Lib.hid (HQ.out.trans (num_more hx))
        have HK2 := Lib.hid (HK.out.set 0 (.slice AC (m - 1) (c - 1)))
        have ha3 : a + x.toNat % 128 * 128 ^ 3 < 128 ^ 4 := by
          rw [show (128 : Nat) ^ 3 = 2097152 from rfl, show (128 : Nat) ^ 4 = 268435456 from rfl]; omega
        have HV := Lib.hid hv
        have HA3 := Lib.hid ha3
        have f4 : decide ((x.toNat : Int) < 128) = false := by simp; omega
        clear hx hv ha3
        go_wp2
        rw [HV.out]
        go_roundw
        case rel => exact ⟨4, _, ⟨r, false⟩, rfl, rfl, by omega, HA3.out, HQ2, HE, HK2⟩
        case measure => simp [intOf]
    · obtain rfl : f = 0 := by omega
      have ha2 : a < 268435456 := ha
      have hv : (a : Int) + (x.toNat : Int) % 128 * 268435456 = ((a + x.toNat % 128 * 128 ^ 4 : Nat) : Int) := by
        rw [show (128 : Nat) ^ 4 = 268435456 from rfl]; omega
      clear hf ha f1 hk
      by_cases hx : x.toNat < 128
      · have HX := Lib.hid (HEND.out (a + x.toNat % 128 * 128 ^ 4) ⟨r, false⟩ (wr.setCell ⟨R, 0, none⟩ (.slice AC (m - 1) (c - 1))) (by rw [HQ.out]; exact (num_last hx).symm) HE.out (HK.out.set _ _))
        rw [← hv] at HX
        have f4 : decide ((x.toNat : Int) < 128) = true := by simp; omega
        clear hx hv
        go_wp2
        go_ret
        exact HX.out
      · have HQ2 : Hid (q = numR (5 - 5) (128 ^ 5) (a + x.toNat % 128 * 128 ^ 4) ⟨r, false⟩) := Lib.hid (HQ.out.trans (num_more hx))
        have HK2 := Lib.hid (HK.out.set 0 (.slice AC (m - 1) (c - 1)))
        have ha3 : a + x.toNat % 128 * 128 ^ 4 < 128 ^ 5 := by
          rw [show (128 : Nat) ^ 4 = 268435456 from rfl, show (128 : Nat) ^ 5 = 34359738368 from rfl]; omega
        have HV := Lib.hid hv
        have HA3 := Lib.hid ha3
        have f4 : decide ((x.toNat : Int) < 128) = false := by simp; omega
        clear hx hv ha3
        go_wp2
        rw [HV.out]
        go_roundw
        case rel => exact ⟨5, _, ⟨r, false⟩, rfl, rfl, by omega, HA3.out, HQ2, HE, HK2⟩
        case measure => simp [intOf]
end Go.Proofs.Ytnoegjfokceghaa
