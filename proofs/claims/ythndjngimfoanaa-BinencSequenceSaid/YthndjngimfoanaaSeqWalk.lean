/-
  The walk of the law BinencSequence: it returns true and turns nothing that was there.
  Conditions: the argument reads as a slice of slices of bytes.
-/
import Derived.Test.YthndjngimfoanaaSeq
import Derived.Test.YthndjngimfoanaaGrow
namespace Go.Proofs.Ythndjngimfoanaa
open Go.RowKit
set_option linter.unusedVariables false

set_option maxRecDepth 100000 in
set_option maxHeartbeats 3200000 in
theorem sequence_walk (A : Option Addr) (n c : Nat) (ps : List Part) (w : World) (hk : ps.length = n) (hr : Row w w.heap.size A n (partV ps)) (hps : ∀ j, Byt w w.heap.size (ps.getD j Part.zero).a (ps.getD j Part.zero).n (ps.getD j Part.zero).l) :
    Calls Try.prog 9 #[.slice A n c] w fun e w' => e = .returned (.bool true) ∧ Below w.heap.size w w' := by
  have HK := Lib.hid hk
  have HR := Lib.hid hr
  have HPS := Lib.hid hps
  clear hk hr hps
  by_cases hbig : 20 < n
  · have HA := Lib.hid (awake_any w)
    go_enter Try.func9, Try.ntmps9
    go_wp2_with fail
    refine HA.out.mono ?_
    rintro e w1 ⟨rfl, hb⟩
    have HB := Lib.hid hb
    clear hb
    go_wp2
    go_ret
    exact ⟨rfl, HB.out⟩
  · go_enter Try.func9, Try.ntmps9
    go_wp2_with fail
    go_loopw [3, 4] (fun t i wr => ∃ (j m cap : Nat) (B : Option Addr), j ≤ n ∧ m ≤ 310 * j ∧ i = .int .i64 (j : Int) ∧ t = .slice B m cap ∧ Hid (m ≤ cap) ∧ Hid (Byt wr wr.heap.size B m (encP (ps.take j))) ∧ Hid (Fut w wr) ∧ Hid (∀ i, i < j → (ps.getD i Part.zero).n ≤ 300)) (fun _ i _ => n - (intOf i).toNat)
    case atStart => exact ⟨0, 0, 0, none, by omega, by omega, rfl, rfl, Lib.hid (Nat.le_refl _), Lib.hid Byt.nil, Lib.hid (Fut.refl w), Lib.hid (by omega)⟩
    case round =>
      obtain ⟨j, m, cap, B, hj, hm, rfl, rfl, HCAP, HBY, HFW, HALL⟩ := hrel
      by_cases hjn : j < n
      · obtain ⟨b, off, rfl, hb, hc⟩ := (HR.out.below HFW.out) (by omega)
        have hcj := hc j hjn
        have hbp := (HPS.out j).below HFW.out
        have htk := encP_take ps j (by rw [HK.out]; exact hjn)
        have hpn : ∀ q : Nat, (ps.getD j Part.zero).n ≤ 300 → ∀ i, i < j + 1 → (ps.getD i Part.zero).n ≤ 300 := fun _ h0 i hi => by
          rcases Nat.lt_or_ge i j with hlt | hge
          · exact HALL.out i hlt
          · rw [show i = j by omega]; exact h0
        have hpn := hpn 0
        unfold partV at hcj
        obtain ⟨p, hp⟩ : ∃ p, p = ps.getD j Part.zero := ⟨_, rfl⟩
        rw [← hp] at hcj hbp htk hpn
        obtain ⟨pa, pn, pc, pl⟩ := p
        simp only at hcj hbp htk hpn
        rw [hbp.1] at htk
        have HTK := Lib.hid htk
        have HBP := Lib.hid hbp
        have HPN := Lib.hid hpn
        clear hc hp htk hbp hpn
        by_cases h300 : 300 < pn
        · have hd : decide ((300 : Int) < (pn : Int)) = true := by simp; omega
          have HA := Lib.hid (awake_any wr)
          go_wp2_with fail
          refine HA.out.mono ?_
          rintro e w1 ⟨rfl, hb1⟩
          have HB1 := Lib.hid (HFW.out.trans hb1)
          clear hb1
          go_wp2
          go_ret
          exact ⟨rfl, HB1.out⟩
        · have hd : decide ((300 : Int) < (pn : Int)) = false := by simp; omega
          have hul := uvar_len pn
          obtain ⟨L, hL⟩ : ∃ L, L = (uvar pn).length := ⟨_, rfl⟩
          have hC := appB_any B m cap wr.heap.size _ pa pn pc pl wr HBY.out (HBP.out.wide HFW.out.size) (Nat.le_refl _) (by omega) (by omega)
          rw [← hL] at hC hul
          have C1 := Lib.hid hC
          have HL := Lib.hid hL
          clear hC hL
          go_wp2_with fail
          refine C1.out.mono ?_
          rintro e w1 ⟨g1, rfl, hg1, hr1, hb1⟩
          rw [← HTK.out] at hr1
          have HB1 := Lib.hid (HFW.out.trans hb1)
          have HBY1 := Lib.hid (hr1.byt' hr1.lt (m := m + L + pn) (by rw [HTK.out]; simp only [List.length_append]; rw [HBY.out.1, ← HL.out, HBP.out.1]))
          clear hr1 hb1 C1
          go_wp2
          go_roundw
          case rel => exact ⟨j + 1, m + L + pn, m + L + pn, some ⟨g1, 0, none⟩, by omega, by omega, by go_num, rfl, Lib.hid (Nat.le_refl _), HBY1, HB1, Lib.hid (HPN.out (by omega))⟩
          case measure => simp [intOf]; omega
      · obtain rfl : n = j := by omega
        have hby := HBY.out
        rw [List.take_of_length_le (by rw [HK.out]; exact Nat.le_refl _)] at hby
        have HE := Lib.hid hby
        obtain ⟨w1, hw1⟩ : ∃ w1, w1 = wr := ⟨_, rfl⟩
        rw [← hw1] at HE HFW ⊢
        clear hby hw1 HBY
        go_wp2_with fail
        go_loopw [5, 6] (fun t i wr => ∃ (j at_ : Nat), j ≤ n ∧ at_ ≤ 6200 ∧ i = .int .i64 (j : Int) ∧ t = .int .i64 (at_ : Int) ∧ Hid ((encP (ps.take j)).length = at_) ∧ Hid (Fut w1 wr)) (fun _ i _ => n - (intOf i).toNat)
        case atStart => exact ⟨0, 0, by omega, by omega, rfl, rfl, Lib.hid rfl, Lib.hid (Fut.refl w1)⟩
        case round =>
          obtain ⟨j, at_, hj2, hat, rfl, rfl, HAT, HF1⟩ := hrel
          by_cases hjn2 : j < n
          · obtain ⟨b, off, rfl, hb, hc⟩ := (HR.out.below (HFW.out.trans HF1.out)) (by omega)
            have hcj := hc j hjn2
            have hbp := (HPS.out j).below (HFW.out.trans HF1.out)
            have hp300 := HALL.out j hjn2
            obtain ⟨rest, hsp⟩ := encP_split ps j (by rw [HK.out]; exact hjn2)
            have htk := encP_take ps j (by rw [HK.out]; exact hjn2)
            unfold partV at hcj
            obtain ⟨p, hp⟩ : ∃ p, p = ps.getD j Part.zero := ⟨_, rfl⟩
            rw [← hp] at hcj hbp hsp hp300 htk
            obtain ⟨pa, pn, pc, pl⟩ := p
            simp only at hcj hbp hsp hp300 htk
            have hd1 := bysR_at (encP (ps.take j)) pl rest 300 (by rw [hbp.1]; omega) (by rw [hbp.1]; omega)
            rw [← hsp, HAT.out, hbp.1] at hd1
            obtain ⟨L, hL⟩ : ∃ L, L = (uvar pn).length := ⟨_, rfl⟩
            rw [← hL] at hd1
            have hnext : (encP (ps.take (j + 1))).length = at_ + L + pn := by
              rw [htk]; simp only [List.length_append]; rw [HAT.out, hbp.1, ← hL]
            have hle : at_ + L + pn ≤ m := by
              rw [← hnext, ← HE.out.1]
              have := congrArg List.length (List.take_append_drop (j + 1) ps)
              have h2 : encP ps = encP (ps.take (j + 1)) ++ encP (ps.drop (j + 1)) := by rw [← encP_append, List.take_append_drop]
              rw [h2, List.length_append]; omega
            have HSP := Lib.hid hsp
            have HBP := Lib.hid hbp
            have HNX := Lib.hid hnext
            have C1 := bytes_any B m cap w1.heap.size (at_ : Int) 300 (encP ps) wr (HE.out.below HF1.out) HF1.out.size (by omega) HCAP.out (Lib.hid (by omega))
            unfold BysPost at C1
            rw [hd1] at C1
            simp only at C1
            have C1 := Lib.hid C1
            have hul := uvar_len pn
            rw [← hL] at hul
            clear hc hp hbp hsp hd1 hL hnext htk
            go_wp2_with fail
            refine C1.out.mono ?_
            rintro e w2 ⟨vp, rfl, hsl, hf2⟩
            obtain ⟨Ap, mp, cp, rfl, hcp, hbyp⟩ := hsl.later ((Fut.refl w2).drew)
            obtain rfl : pn = mp := by rw [← hbyp.1, HBP.out.1]
            have HF2 := Lib.hid (HF1.out.trans hf2)
            have hsx := fun W (hW : Fut w2.drew W) => (hbyp.below hW).str cp
            have hfa := (hf2.drew)
            have hsy := fun W (hW : Fut w2.drew W) => (HBP.out.below ((HFW.out.trans HF1.out).size |> fun hz => (hfa.trans hW).mono hz)).str pc
            have hld : ∀ W, Fut w2.drew W → W.cell? ⟨b, off + j, none⟩ = some (.slice pa pn pc) := fun W hW => by
              have hz := (HFW.out.trans HF1.out).size
              rw [← hcj]
              exact (hfa.trans hW).cell (p := ⟨b, off + j, none⟩) (by show b < _; omega)
            clear C1 hsl hf2 hbyp hfa
            go_wp2_with fail
            refine wp_region_grow [(0, true), (1, true), (2, true), (3, true), (4, true), (5, true), (6, true), (7, true), (8, true), (9, true), (10, true), (11, true)] (by kernel_rfl) (by kernel_rfl) (by kernel_rfl) (by kernel_rfl) (by intro c a d v w h; cases d <;> exact h) ?_
            repeat (first
              | (refine wpGrow_float (v := ?_) (by simp only [List.getElem?_toArray, List.getElem?_cons_succ, List.getElem?_cons_zero]; rfl) (by rfl) ?_ ?_
                 rotate_left
                 · (intro W hW; go_simp; try with_reducible rfl)
                 simp only [Act.put, List.setIfInBounds_toArray, List.set_cons_zero, List.set_cons_succ])
              | (refine wpGrow_skip (by simp only [List.getElem?_toArray, List.getElem?_cons_succ, List.getElem?_cons_zero]; rfl) (by rfl) ?_
                 simp only [Act.put, List.setIfInBounds_toArray, List.set_cons_zero, List.set_cons_succ]))
            clear hsx hsy hld
            refine wpGrow_nil ?_
            by_cases h0 : pn = 0
            · subst h0
              have C2 := bytes_any B m cap w1.heap.size (at_ : Int) (-1) (encP ps) w2.drew (HE.out.below HF2.out.drew) HF2.out.drew.size (by omega) HCAP.out (Lib.hid (by omega))
              unfold BysPost at C2
              rw [bysR_low (by omega)] at C2
              have C2 := Lib.hid C2
              go_wp2_with fail
              refine C2.out.mono ?_
              rintro e w3 ⟨vq, rfl, hsl3, hf3⟩
              have HF3 := Lib.hid (HF2.out.drew.trans hf3)
              clear hsl3 hf3 C2
              go_wp2
              go_roundw
              case rel => exact ⟨j + 1, at_ + L + 0, by omega, by omega, by go_num, by go_num, HNX, HF3⟩
              case measure => simp [intOf]; omega
            · have hov := bysR_over (encP (ps.take j)) pl rest ((pn : Int) - 1) (by omega) (by rw [HBP.out.1]; omega) (by rw [HBP.out.1]; omega)
              rw [HBP.out.1] at hov
              rw [HBP.out.1] at HSP
              rw [← HSP.out, HAT.out] at hov
              have hp0 : decide ((0 : Int) < (pn : Int)) = true := by simp; omega
              have hpp : 0 < pn := by omega
              have hp1 : ((pn : Int) == 0) = false := by simp; omega
              have C2 := bytes_any B m cap w1.heap.size (at_ : Int) ((pn : Int) - 1) (encP ps) w2.drew (HE.out.below HF2.out.drew) HF2.out.drew.size (by omega) HCAP.out (Lib.hid (by omega))
              unfold BysPost at C2
              rw [hov] at C2
              have C2 := Lib.hid C2
              clear hov
              go_wp2_with fail
              refine C2.out.mono ?_
              rintro e w3 ⟨vq, rfl, hsl3, hf3⟩
              have HF3 := Lib.hid (HF2.out.drew.trans hf3)
              clear hsl3 hf3 C2
              go_wp2
              go_roundw
              case rel => exact ⟨j + 1, at_ + L + pn, by omega, by omega, by go_num, by go_num, HNX, HF3⟩
              case measure => simp [intOf]; omega
          · obtain rfl : n = j := by omega
            have hend : at_ = m := by
              have h1 := HAT.out
              rw [List.take_of_length_le (by rw [HK.out]; exact Nat.le_refl _), HE.out.1] at h1
              exact h1.symm
            subst hend
            have HA := Lib.hid (awake_any wr)
            go_wp2_with fail
            refine HA.out.mono ?_
            rintro e w3 ⟨rfl, hb3⟩
            have HB3 := Lib.hid (Fut.trans (HFW.out.trans HF1.out) hb3)
            clear hb3
            go_wp2
            go_ret
            exact ⟨rfl, HB3.out⟩

end Go.Proofs.Ythndjngimfoanaa
