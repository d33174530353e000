/-
  The walk of the law LexFormat: Format equals the reference.
  Conditions: the listed variables lie as the program's start lays them.
-/
import Derived.Test.YthpcfidcpaikgaaDoorRfm
import Derived.Test.YthpcfidcpaikgaaDoorTokA
import Derived.Test.YthpcfidcpaikgaaDoorGlob2
namespace Go.Proofs.YthpcfidcpaikgaaDoor
open Go.RowKit Go.Shelf

theorem u64_bd {v : Int} (h : (Lit.int .u64 v).wf = true) : 0 ≤ v ∧ v < 18446744073709551616 := by
  have := bounds_u64 h; omega
theorem GTok.cells5 {w : World} {B : Nat} {A : Option Addr} {ts : List GTok} (h : TRow w B A ts) {i : Nat} (hi : i < ts.length) : ∃ b off, A = some ⟨b, off, none⟩ ∧ b < B ∧ w.cell? ⟨b, off + i * 5 + 1, none⟩ = some (.string ⟨ts[i].text.toArray⟩) := by
  obtain ⟨b, off, e, hb, _, x1, _⟩ := h.cells5 hi
  exact ⟨b, off, e, hb, x1⟩
set_option maxRecDepth 50000 in
set_option maxHeartbeats 1000000 in
theorem lexFormat_walk (a : Option Addr) (len cap : Nat) (ts : List GTok) (w : World) (h : IsToks w a len cap ts) (hG : Glob2 w) :
    Calls Tryd.prog 4 #[.slice a len cap] w fun e w' => e = .returned (.bool true) ∧ Below w.heap.size w w' := by
  obtain ⟨rfl, hle, hmx, hrow, hwf, hsh⟩ := h
  have HAW := Lib.hid fun W (hW : Glob2 W) => awake_any W hW.1
  have HG := Lib.hid hG
  have HR := Lib.hid hrow
  have HF : Hid (ts.length ≤ 200 → (∀ t ∈ ts, t.text.length ≤ 200) → Few ts) := Lib.hid fun h1 h2 => ⟨by omega, fun t ht => ⟨by have := h2 t ht; omega, u64_bd (hwf t ht).value⟩⟩
  have HSH := Lib.hid hsh
  have hmx2 := hmx
  unfold maxLen at hmx2
  clear hG hrow hwf hsh hmx
  rcases Nat.lt_or_ge 200 ts.length with hbig | hsm
  · go_enter Tryd.func4, Tryd.ntmps4
    go_wp2_with fail
    refine (HAW.out _ HG.out).mono ?_
    rintro e w1 ⟨rfl, hb⟩
    go_wp2
    go_ret
    exact ⟨rfl, hb⟩
  · go_enter Tryd.func4, Tryd.ntmps4
    go_wp2
    go_loop [3] (fun vi => ∃ k : Nat, vi = .int .i64 k ∧ k ≤ ts.length ∧ Hid (∀ t ∈ ts.take k, t.text.length ≤ 200)) (fun vi => ts.length - (intOf vi).toNat)
    case atStart => exact ⟨0, rfl, Nat.zero_le _, Lib.hid (fun t ht => (by cases ht))⟩
    case round =>
      obtain ⟨k, rfl, hk, HK⟩ := hrel
      rcases Nat.lt_or_ge k ts.length with hlt | hge
      · obtain ⟨b1, o1, rfl, hb1, x1⟩ := GTok.cells5 HR.out hlt
        have HTS : Hid (ts[k].text.length ≤ 200 → ∀ t ∈ ts.take (k + 1), t.text.length ≤ 200) := Lib.hid fun h t ht => by
          rw [List.take_succ_eq_append_getElem hlt, List.mem_append] at ht
          rcases ht with ht | ht
          · exact HK.out t ht
          · rw [List.mem_singleton] at ht; subst ht; exact h
        have hsh := HSH.out ts[k] (List.getElem_mem hlt)
        generalize ts[k] = t at *
        obtain ⟨kd, tx, v, ln, cl⟩ := t
        simp only at x1 hsh
        have hsz : (⟨tx.toArray⟩ : ByteArray).size = tx.length := ba_size tx
        rcases Nat.lt_or_ge 200 tx.length with hl | hl
        · go_wp2_with fail
          refine (HAW.out _ HG.out).mono ?_
          rintro e w1 ⟨rfl, hb⟩
          go_wp2
          go_ret
          exact ⟨rfl, hb⟩
        · have HT := Lib.hid (HTS.out hl)
          go_wp2
          go_round
          case rel => exact ⟨k + 1, by go_num, by omega, HT⟩
          case measure => simp [intOf]; omega
      · have HFEW := Lib.hid (HF.out hsm (by have := HK.out; rwa [List.take_of_length_le hge] at this))
        obtain ⟨v2, w2, hrun, hown, hgr⟩ := (OwnT.nil w w.heap.size).app (A := a) cap HR.out (Nat.le_refl _) (by simp; omega)
        rw [List.nil_append] at hown
        obtain ⟨A2, cap2, rfl, hc2, hr2⟩ := hown.row
        have hb2 : Below w.heap.size w w2 := (Below.refl _ _).grown hgr (Nat.le_refl _) (fun k hk => by simp [Value.ownBlock] at hk)
        have HRUN := Lib.hid hrun
        have HB2 := Lib.hid hb2
        have HR2 := Lib.hid hr2
        have HP2 := Lib.hid (HG.out.2.next hb2)
        clear hrun hown hgr hr2 hb2 hc2
        go_wp2_with (at_builtin; refine wpList_tapp_run HRUN.out rfl rfl rfl rfl rfl ?_)
        go_wp2_with fail
        refine (format_any ts A2 cap2 _ HR2.out HFEW.out HP2.out).mono ?_
        rintro e w3 ⟨rfl, hb3⟩
        have HB3 := Lib.hid (bel_next HB2.out hb3)
        have hs3 := HB3.out.size
        clear hb3
        go_wp2_with fail
        refine (rformat_any ts a cap _ ((HR.out.below (Nat.le_refl _) HB3.out).wide hs3) HFEW.out).mono ?_
        rintro e w4 ⟨rfl, hb4⟩
        have HB4 := Lib.hid (bel_next HB3.out hb4)
        have HA4 := Lib.hid (HAW.out _ (HG.out.next HB4.out))
        clear hb4
        generalize fmtL ts = fl at *
        have ffl : (fl == fl) = true := by simp
        go_wp2_with fail
        refine HA4.out.mono ?_
        rintro e w5 ⟨rfl, hb5⟩
        go_wp2
        go_ret
        exact ⟨rfl, bel_next HB4.out hb5⟩
end Go.Proofs.YthpcfidcpaikgaaDoor
