/-
  The maker of ranges out of numbers; copies of a row of ranges.
  Conditions: none beyond what each theorem says.
-/
import Derived.Test.YtndppbfdcceflaaGreatDoorRgi
namespace Go.Proofs.YtndppbfdcceflaaGreatDoor

open Go.RowKit

/-- A slice of ints that is read. -/
structure IRow (w : World) (B : Nat) (A : Option Addr) (len cap : Nat) (zs : List Int) : Prop where
  count : zs.length = len
  le : len ≤ cap
  max : cap ≤ 9223372036854775807
  row : 0 < len → ∃ b off, A = some ⟨b, off, none⟩ ∧ b < B ∧ ∀ i, i < len → w.cell? ⟨b, off + i, none⟩ = some (.int .i64 (zs.getD i 0))
  wf : ∀ z ∈ zs, (Lit.int .i64 z).wf = true
theorem IRow.below {w w' : World} {B B' : Nat} {A : Option Addr} {len cap : Nat} {zs : List Int} (h : IRow w B A len cap zs) (hB : B ≤ B') (hb : Below B' w w') : IRow w' B A len cap zs :=
  ⟨h.count, h.le, h.max, fun hn => by
    obtain ⟨b, off, e, hlt, hc⟩ := h.row hn
    exact ⟨b, off, e, hlt, fun i hi => (hb.cell (p := ⟨b, off + i, none⟩) (by show b < B'; omega)).trans (hc i hi)⟩, h.wf⟩
theorem mPlace_any (v n : Int) (hn : 1 ≤ n) (hn2 : n ≤ 4611686018427387904) (w : World) :
    Calls Tryz.prog 19 #[.int .i64 v, .int .i64 n] w fun e w' => ∃ p : Int, 0 ≤ p ∧ p < n ∧ e = .returned (.int .i64 p) ∧ w = w' := by
  have hb1 : v.tmod n < n := Int.tmod_lt_of_pos v (by omega)
  have hb2 : -n < v.tmod n := Int.lt_tmod_of_pos v (by omega)
  have hnz : ¬ n = 0 := by omega
  go_enter Tryz.func19, Tryz.ntmps19
  go_wp2
  all_goals go_ret
  · exact ⟨_, by omega, by omega, rfl, rfl⟩
  · exact ⟨_, by omega, by omega, rfl, rfl⟩
theorem pw_top {n : Int} (h0 : 0 ≤ n) (h1 : n ≤ 40) : pw n ≤ 1099511627776 := by
  have h2 := pw_le h1 h0
  have h3 : pw 40 = 1099511627776 := by decide
  omega
theorem mk_VR {k t p : Int} (h6 : 6 ≤ k) (hkt : k ≤ t) (ht : t ≤ 40) (h0 : 0 ≤ p) (hp : p < pw (t - k)) : VR ⟨p * pw k, k⟩ ∧ p * pw k + pw k ≤ pw t := by
  have hs := pw_pos k
  have e : pw t = pw (t - k) * pw k := by
    unfold pw
    rw [← Int.pow_add, show (t - k).toNat + k.toNat = t.toNat by omega]
  have h1 := Int.mul_le_mul_of_nonneg_right (show p + 1 ≤ pw (t - k) by omega) (Int.le_of_lt hs)
  rw [Int.add_mul, Int.one_mul, ← e] at h1
  have h2 : pw t ≤ pw 40 := pw_le ht (by omega)
  have h3 : pw 40 = 1099511627776 := by decide
  have h4 := Int.mul_nonneg h0 (Int.le_of_lt hs)
  exact ⟨⟨h6, by simp only; omega, h4, Int.mul_emod_left _ _, by show p * pw k + pw k ≤ _; omega⟩, h1⟩
theorem shl_p {k p : Int} (h0 : 0 ≤ p * pw k) (h1 : p * pw k ≤ 1099511627776) : wrap64 (p * 2 ^ k.toNat) = p * pw k := IntWalk.wrap64_in _ (by unfold pw at *; omega)
set_option maxRecDepth 20000 in
theorem mSmall_any (a b : Int) (w : World) : Calls Tryz.prog 46 #[.int .i64 a, .int .i64 b] w fun e w' => ∃ r, VR r ∧ r.bits ≤ 16 ∧ r.base + r.sz ≤ 65536 ∧ e = .returned r.val ∧ Below w.heap.size w w' := by
  have HP := Lib.hid fun v n hn hn2 W => mPlace_any v n hn hn2 W
  have HZ := Lib.hid (RB.new w zR)
  have HS : ∀ (W : World) (p : Value), Below w.heap.size w W → ∀ j, Below w.heap.size w (W.setCell ⟨w.heap.size, j, none⟩ p) := fun W p hb j => hb.setCell (p := ⟨w.heap.size, j, none⟩) (by simp) p
  have HSC := Lib.hid HS
  clear HS
  go_enter Tryz.func46, Tryz.ntmps46
  go_wp2_with fail
  go_fit (HP.out b 11 (by omega) (by omega) _)
  rintro e w1 ⟨p, hp0, hp1, rfl, rfl⟩
  have hsh : wrap64 (2 ^ (16 - (6 + p)).toNat) = pw (16 - (6 + p)) := shl_one64 (by omega) (by omega)
  have hpl := pw_top (n := 16 - (6 + p)) (by omega) (by omega)
  have hpp := pw_pos (16 - (6 + p))
  have HPA := Lib.hid fun W => HP.out a (pw (16 - (6 + p))) (by omega) (by omega) W
  have HM := Lib.hid fun (x : Int) (h0 : 0 ≤ x) (h1 : x < pw (16 - (6 + p))) => mk_VR (k := 6 + p) (t := 16) (p := x) (by omega) (by omega) (by omega) h0 h1
  generalize hz : pw (16 - (6 + p)) = z at *
  clear hz
  go_wp2_with fail
  go_fit (HPA.out _)
  rintro e w1 ⟨x, hx0, hx1, rfl, rfl⟩
  obtain ⟨hv, hle⟩ := HM.out x hx0 hx1
  have hxt : pw 16 ≤ 1099511627776 := pw_top (by omega) (by omega)
  have hs2 : wrap64 (x * 2 ^ (6 + p).toNat) = x * pw (6 + p) := shl_p (Int.mul_nonneg hx0 (Int.le_of_lt (pw_pos _))) (by have := pw_pos (6 + p); omega)
  have hpt : pw 16 = 65536 := by decide
  have HV := Lib.hid hv
  have HLE : Hid (x * pw (6 + p) + pw (6 + p) ≤ 65536) := Lib.hid (by omega)
  obtain ⟨y0, y1, z0, z1⟩ := HZ.out.facts
  have hzl := HZ.out.lt
  simp only [zR] at y0 y1
  clear hsh hpl hpp HPA HM hv hle hxt hpt HP hx1
  generalize hxx : x * pw (6 + p) = xx at *
  generalize hpp : pw (6 + p) = pp at *
  go_wp2
  refine bodyPost_ret (v := .agg #[.int .i64 xx, .int .i64 (6 + p)]) (by simp [results, Tryz.results46, go_sem]) rfl ?_
  refine ⟨⟨xx, 6 + p⟩, HV.out, by simp only; omega, by show xx + pw (6 + p) ≤ 65536; rw [hpp]; exact HLE.out, rfl, ?_⟩
  first
    | exact (Below.refl _ w).alloc (Nat.le_refl _) _
    | exact HSC.out _ _ (HSC.out _ _ ((Below.refl _ w).alloc (Nat.le_refl _) _) _) _
end Go.Proofs.YtndppbfdcceflaaGreatDoor
