/-
  The laws' sanity check: the chapter's example.
  Conditions: none.
-/
import Derived.Test.YtpjakfbjiioflaaMcp
namespace Go.Proofs.Ytpjakfbjiioflaa

open Go.RowKit

/-- A row of capabilities, element by element. -/
theorem GRow.cap {w : World} {B : Nat} {A : Option Addr} {xs : List GC} (h : GRow GC.cells 7 w B A xs) {k : Nat} (hk : k < xs.length) : ∃ b off, A = some ⟨b, off, none⟩ ∧ b < B ∧ w.cell? ⟨b, off + k * 7, none⟩ = some (.int .i64 xs[k].kind) ∧ w.cell? ⟨b, off + k * 7 + 1, none⟩ = some (.int .i64 xs[k].base) ∧ w.cell? ⟨b, off + k * 7 + 2, none⟩ = some (.int .i64 xs[k].bits) ∧ w.cell? ⟨b, off + k * 7 + 3, none⟩ = some (.int .i64 xs[k].rights) ∧ w.cell? ⟨b, off + k * 7 + 4, none⟩ = some (.int .i64 xs[k].width) ∧ w.cell? ⟨b, off + k * 7 + 5, none⟩ = some (.int .i64 xs[k].level) ∧ w.cell? ⟨b, off + k * 7 + 6, none⟩ = some (.bool xs[k].device) := by
  obtain ⟨b, off, rfl, hb, hc⟩ := h (by omega)
  exact ⟨b, off, rfl, hb, hc k hk 0 _ rfl, hc k hk 1 _ rfl, hc k hk 2 _ rfl, hc k hk 3 _ rfl, hc k hk 4 _ rfl, hc k hk 5 _ rfl, hc k hk 6 _ rfl⟩
def exS : GC := ⟨1, 0, 14, 7, 0, 0, false⟩
theorem ex_err : retErr exS 3 12 0 32 4096 2 = 0 := by decide +kernel
theorem ex_l : retL exS 3 12 0 32 4096 2 = [⟨3, 4096, 12, 7, 32, 0, false⟩, ⟨3, 8192, 12, 7, 32, 0, false⟩] := by decide +kernel
theorem ex_v : vC ⟨3, 8192, 12, 7, 32, 0, false⟩ = true := by decide +kernel
set_option maxRecDepth 20000 in
set_option maxHeartbeats 1000000 in
theorem awake11 (w : World) : Calls Try.prog 22 #[] w fun e w' => e = .returned (.bool true) ∧ Below w.heap.size w w' := by
  have HR := Lib.hid fun W => pRet_any exS 3 12 0 32 4096 2 W
  have HV := Lib.hid fun W => pVC_any ⟨3, 8192, 12, 7, 32, 0, false⟩ W
  rw [ex_v] at HV
  rw [ex_err, ex_l] at HR
  simp only [GC.val, exS] at HR HV
  go_enter Try.func22, Try.ntmps22
  go_wp2_with fail
  go_fit (HR.out _)
  rintro e w1 ⟨v1, rfl, ho1, hb1⟩
  obtain ⟨A1, c1, rfl, hc1, hm1, hr1⟩ := ho1.row GC.len
  obtain ⟨b1, o1, rfl, hlt1, x0, x1, x2, x3, x4, x5, x6⟩ := hr1.cap (k := 0) (by simp)
  obtain ⟨b2, o2, he, hlt2, y0, y1, y2, y3, y4, y5, y6⟩ := hr1.cap (k := 1) (by simp)
  injection he with he
  injection he with e1 e2
  subst e1 e2
  have HB1 := Lib.hid hb1
  simp only [List.length_cons, List.length_nil, List.getElem_cons_succ, List.getElem_cons_zero, Nat.zero_mul, Nat.add_zero, Nat.one_mul] at x0 x1 x2 x3 x4 x5 x6 y0 y1 y2 y3 y4 y5 y6 hc1 ⊢
  clear ho1 hr1 hb1 HR
  go_wp2_with fail
  go_fit (HV.out _)
  rintro e w2 ⟨rfl, hb2⟩
  have HB2 := Lib.hid (beln HB1.out hb2)
  clear hb2 x0 x1 x2 x3 x4 x5 x6 y0 y1 y2 y3 y4 y5 y6 HV
  go_wp2
  go_ret
  exact ⟨rfl, HB2.out⟩
end Go.Proofs.Ytpjakfbjiioflaa
